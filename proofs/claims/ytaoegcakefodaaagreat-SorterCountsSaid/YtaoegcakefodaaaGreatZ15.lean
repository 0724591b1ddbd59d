/-
  Texts of this proof, merged.
-/
import Derived.Test.YtaoegcakefodaaaGreatZ1
import Derived.Test.YtaoegcakefodaaaGreatZ2
import Derived.Test.YtaoegcakefodaaaGreatZ3
import Derived.Test.YtaoegcakefodaaaGreatZ4
import Derived.Test.YtaoegcakefodaaaGreatZ9
import Derived.Test.YtaoegcakefodaaaGreatZ10
import Derived.Test.YtaoegcakefodaaaGreatZ11
import Derived.Test.YtaoegcakefodaaaGreatZ14
namespace Go.Proofs.YtaoegcakefodaaaGreat
open Go.RowKit Go.BigFrame
instance (g : Nat) (w : World) : Inhabited (Later (Only g) w) := ⟨⟨w, Only.refl _ _⟩⟩
theorem Only.keeps (g : Nat) : Keeps (Only g) := ⟨Only.refl g, fun _ _ _ h k => Only.trans h k⟩
theorem Only.of_ext {g : Nat} {w w' : World} (h : Ext w w') : Only g w w' := ⟨h.os, h.tape, h.output, h.size, fun k hk _ => h.block k hk⟩
theorem only_kept {w w' : World} {b g : Nat} {xs : List Value} (h : ∀ j u, xs[j]? = some u → w.cell? ⟨b, j, none⟩ = some u) (ho : Only g w w') (hne : b ≠ g) : ∀ j u, xs[j]? = some u → w'.cell? ⟨b, j, none⟩ = some u :=
  fun j u hj => ho.cell (h j u hj) (fun hh => hne (by simpa using hh))
theorem only_cells {w w' : World} {b g : Nat} {xs : List Value} (h : ∀ j u, xs[j]? = some u → w.cell? ⟨b, j, none⟩ = some u) (ho : Only g w w') (hne : b ≠ g) (j : Nat) (u : Value) (hj : xs[j]? = some u) : ∀ z : Later (Only g) w', z.val.cell? ⟨b, j, none⟩ = some u :=
  fun z => only_kept (only_kept h ho hne) z.ext hne j u hj
theorem only_frozen {w w' : World} {b g i : Nat} (ho : Only g w w') (hb : b < w.heap.size) (hne : b ≠ g) : w'.frozen? ⟨b, i, none⟩ = w.frozen? ⟨b, i, none⟩ := by
  unfold World.frozen?
  rw [ho.block b hb (fun e => hne (by simpa using e))]
theorem new_free0 (w : World) (O O' : Obj) (xs : List Value) (t : TypeId) (hO : O = .cells xs.toArray t) (j : Nat) : ((w.alloc O).alloc O').frozen? ⟨w.heap.size, j, none⟩ = false := by
  unfold World.frozen?
  rw [heap_alloc2_old, hO]
  simp
theorem new_free1 (w : World) (O O' : Obj) (xs : List Value) (t : TypeId) (hO : O' = .cells xs.toArray t) (j : Nat) : ((w.alloc O).alloc O').frozen? ⟨w.heap.size + 1, j, none⟩ = false := by
  unfold World.frozen?
  rw [heap_alloc2_new, hO]
  simp
theorem set_1 {w : World} {B : Nat} {a b c : Value} (h : ∀ j u, ([a, b, c] : List Value)[j]? = some u → w.cell? ⟨B, j, none⟩ = some u) (y : Value) :
    ∀ j u, ([a, y, c] : List Value)[j]? = some u → (w.setCell ⟨B, 1, none⟩ y).cell? ⟨B, j, none⟩ = some u := by
  intro j u hj
  match j, hj with
  | 0, hj =>
    cases hj
    rw [World.cell?_setCell_other]
    · exact h 0 _ rfl
    all_goals simp
  | 1, hj =>
    cases hj
    exact World.cell?_setCell_same _ _ _ (h 1 _ rfl)
  | 2, hj =>
    cases hj
    rw [World.cell?_setCell_other]
    · exact h 2 _ rfl
    all_goals simp
theorem set_2 {w : World} {B : Nat} {a b c : Value} (h : ∀ j u, ([a, b, c] : List Value)[j]? = some u → w.cell? ⟨B, j, none⟩ = some u) (y : Value) :
    ∀ j u, ([a, b, y] : List Value)[j]? = some u → (w.setCell ⟨B, 2, none⟩ y).cell? ⟨B, j, none⟩ = some u := by
  intro j u hj
  match j, hj with
  | 0, hj =>
    cases hj
    rw [World.cell?_setCell_other]
    · exact h 0 _ rfl
    all_goals simp
  | 1, hj =>
    cases hj
    rw [World.cell?_setCell_other]
    · exact h 1 _ rfl
    all_goals simp
  | 2, hj =>
    cases hj
    exact World.cell?_setCell_same _ _ _ (h 2 _ rfl)
theorem set_off {w : World} {B g i : Nat} {xs : List Value} {u : Value} (h : ∀ j y, xs[j]? = some y → w.cell? ⟨B, j, none⟩ = some y) (hg : B ≠ g) :
    ∀ j y, xs[j]? = some y → (w.setCell ⟨g, i, none⟩ u).cell? ⟨B, j, none⟩ = some y := fun j y hj => by
  rw [World.cell?_of_block (w := w) (Below.heap_setCell _ _ _ _ hg)]
  exact h j y hj
theorem only_drew (g : Nat) (w : World) : Only g w w.drew := Only.of_ext (Ext.drew w)
theorem only_set (g i : Nat) (w : World) (u : Value) : Only g w (w.setCell ⟨g, i, none⟩ u) := by
  refine ⟨rfl, rfl, rfl, by simp [World.setCell], fun k _ hk => ?_⟩
  rw [Below.heap_setCell _ _ _ _ (fun e => hk (by rw [e]))]
def TookO (w : World) (l : List UInt8) (e : Ending) (w' : World) : Prop :=
  ((∃ v m r, takeV l = some (v, m) ∧ e = .returned (.tuple #[v.val, r, .int .i64 0]) ∧ w'.ownsRow w.heap.size 5 1 r m.length (m.map bv)) ∨
   (takeV l = none ∧ e = .returned (.tuple #[.agg #[.int .u8 0, .int .i64 0, .string ⟨#[]⟩], .slice none 0 0, .int .i64 6]))) ∧ Ext w w'
theorem TookO.took {w : World} {l : List UInt8} {e : Ending} {w' : World} (h : TookO w l e w') : Took w l e w' :=
  ⟨h.1.imp (fun ⟨v, m, r, h1, h2, h3⟩ => ⟨v, m, r, h1, h2, OwnL.of_owns h3⟩) id, h.2⟩
theorem owns_setO {B g i n size : Nat} {e : TypeId} {w : World} {v u : Value} {xs : List Value} (h : w.ownsRow B e size v n xs) (hg : g < B) : (w.setCell ⟨g, i, none⟩ u).ownsRow B e size v n xs := by
  refine ⟨h.1, ?_⟩
  rcases h.2 with hn | ⟨g', cap, cur, rfl, hb, hgg, rest⟩
  · exact .inl hn
  · refine .inr ⟨g', cap, cur, rfl, hb, ?_, rest⟩
    rw [Below.heap_setCell _ _ _ _ (fun e => by have h9 : g' = g := e; omega)]
    exact hgg
theorem Rdr.set {T : TypeId} {B b g i : Nat} {w : World} {l : List UInt8} {bad : Bool} {u : Value} (h : RdrT T B w b l bad) (hg : g < B) (hb : b ≠ g) : RdrT T B (w.setCell ⟨g, i, none⟩ u) b l bad := by
  obtain ⟨v, h1, h2, h3⟩ := h
  exact ⟨v, by rw [Below.heap_setCell _ _ _ _ (by exact hb)]; exact h1, rd_setBelow h2 h3 hg, h3⟩
set_option maxRecDepth 100000 in
set_option maxHeartbeats 1000000 in
theorem take_0 (bb off L cap : Nat) (a1 : Option Addr) (cap1 : Nat) (t : List UInt8) (w : World) (hc0 : w.cell? ⟨bb, off, none⟩ = some (.int .u8 0)) (hrt : Rd w (.slice a1 (L - 1) cap1) t) (hsl : ∀ W, (Instr.slice 36 (.slice (some ⟨bb, off, none⟩) L cap) (some (.int .i64 1)) none none).run Tryz.prog W = .ok (.slice a1 (L - 1) cap1) W) (hLd : L = t.length + 1) (hl : t.length < 1000000) (hR : ∀ W, Calls Tryz.prog 105 #[.agg #[.int .u8 0, .int .i64 0, .string ⟨#[]⟩]] W fun e w' => e = .returned (.bool true) ∧ Ext W w') (hrm1 : cap = L - t.length → Rd w (.slice (some ⟨bb, off, none⟩) (L - (L - t.length)) 0) t) (hrm2 : ¬ cap = L - t.length → Rd w (.slice (some ⟨bb, off + (L - t.length), none⟩) (L - (L - t.length)) (cap - (L - t.length))) t) (hml : t.length ≤ L) (htv : takeV (0 :: t) = some (⟨0, 0, []⟩, t)) :
    Calls Tryz.prog 167 #[.slice (some ⟨bb, off, none⟩) L cap] w (TookO w (0 :: t)) := by
  have HTV := Lib.hid htv
  have HLD := Lib.hid hLd
  have HL := Lib.hid hl
  have HRT := Lib.hid hrt
  have HR := Lib.hid hR
  have HRM1 := Lib.hid hrm1
  have HRM2 := Lib.hid hrm2
  have HML := Lib.hid hml
  clear hrm1 hrm2 hml
  have hlne : ((L : Int) == 0) = false := by rw [beq_eq_false_iff_ne]; omega
  have hL1 : 1 ≤ L := by omega
  have hLM : L ≤ 1000000 := by omega
  have hc1 : (w.alloc (.cells #[.int .u8 0, .int .i64 0, .string ⟨#[]⟩] 56)).cell? ⟨bb, off, none⟩ = some (.int .u8 0) := ((ext_one w _).cell (lt_of_cell hc0)).trans hc0
  clear htv hLd hl hrt hc0 hR
  have HE1 := Lib.hid (ext_two w (.cells #[.int .u8 0, .int .i64 0, .string ⟨#[]⟩] 56) (.cells #[.int .u8 0, .int .i64 0, .string ⟨#[]⟩] 56))
  have HZ0 := Lib.hid (cells_two0 w [.int .u8 0, .int .i64 0, .string ⟨#[]⟩] [.int .u8 0, .int .i64 0, .string ⟨#[]⟩] 56)
  have HZ1 := Lib.hid (cells_two1 w [.int .u8 0, .int .i64 0, .string ⟨#[]⟩] [.int .u8 0, .int .i64 0, .string ⟨#[]⟩] 56)
  have HSZ := Lib.hid (show ((w.alloc (.cells #[.int .u8 0, .int .i64 0, .string ⟨#[]⟩] 56)).alloc (.cells #[.int .u8 0, .int .i64 0, .string ⟨#[]⟩] 56)).heap.size = w.heap.size + 2 from by simp)
  have HF0 := Lib.hid (new_free0 w (.cells #[.int .u8 0, .int .i64 0, .string ⟨#[]⟩] 56) (.cells #[.int .u8 0, .int .i64 0, .string ⟨#[]⟩] 56) [.int .u8 0, .int .i64 0, .string ⟨#[]⟩] _ rfl)
  have HF1 := Lib.hid (new_free1 w (.cells #[.int .u8 0, .int .i64 0, .string ⟨#[]⟩] 56) (.cells #[.int .u8 0, .int .i64 0, .string ⟨#[]⟩] 56) [.int .u8 0, .int .i64 0, .string ⟨#[]⟩] _ rfl)
  go_enter Tryz.func167, Tryz.ntmps167
  go_wp2_with fail
  generalize (w.alloc (.cells #[.int .u8 0, .int .i64 0, .string ⟨#[]⟩] 56)).alloc (.cells #[.int .u8 0, .int .i64 0, .string ⟨#[]⟩] 56) = W2 at HE1 HZ0 HZ1 HSZ HF0 HF1 ⊢
  refine (New_any _ t W2 (HRT.out.mono HE1.out) (by have := HL.out; omega)).mono ?_
  rintro e w3 ⟨b, rfl, hb, hrd, hx3⟩
  have HB := Lib.hid (show w.heap.size + 2 ≤ b by have := HSZ.out; omega)
  have HRD := Lib.hid hrd
  have HX3 := Lib.hid hx3
  have HC3 := Lib.hid (kept_cell HZ1.out hx3)
  have c0 := HC3.out 0 _ rfl
  clear hb hrd hx3
  go_wp2_with fail
  have HRD5 := HRD
  have HE5 := Lib.hid (Ext.trans HE1.out HX3.out)
  have HC5 := HC3
  have HZ5 := Lib.hid (kept_cell HZ0.out HX3.out)
  have HF5 := Lib.hid (show ∀ j, w3.frozen? ⟨w.heap.size, j, none⟩ = false from fun j => by
    rw [frozen_ext HX3.out (by have := HSZ.out; omega)]
    exact HF0.out _)
  clear c0
  refine (Bad_any W2.heap.size b t false _ HRD5.out).mono ?_
  rintro e w6 ⟨rfl, rfl⟩
  have c0 := HC5.out 0 _ rfl
  have c1 := HC5.out 1 _ rfl
  have c2 := HC5.out 2 _ rfl
  go_wp2_with fail
  refine (HR.out _).mono ?_
  rintro e w7 ⟨rfl, hx7⟩
  have HE7 := Lib.hid (Ext.trans HE5.out hx7)
  have HC7 := Lib.hid (kept_cell HC5.out hx7)
  have HZ7 := Lib.hid (kept_cell HZ5.out hx7)
  have HRD7 := Lib.hid (Rdr.mono HRD5.out hx7)
  have HF7 := Lib.hid (show ∀ j, w7.frozen? ⟨w.heap.size, j, none⟩ = false from fun j => by
    rw [frozen_ext hx7 (lt_of_cell (HZ5.out 0 _ rfl))]
    exact HF5.out _)
  clear hx7 c0 c1 c2
  have HO7 := Lib.hid (only_drew w.heap.size w7)
  have c0 := only_cells HC7.out HO7.out (by omega) 0 _ rfl
  have c1 := only_cells HC7.out HO7.out (by omega) 1 _ rfl
  have c2 := only_cells HC7.out HO7.out (by omega) 2 _ rfl
  go_wp2_with fail
  refine wp_region_segs (Only w.heap.size) (Only.keeps _) [([0, 1, 2, 3, 4], some 5), ([6, 7], some 8), ([], some 9), ([10, 11], none)] (by kernel_rfl) (by kernel_rfl) (fun c a a' w e h => (by exact ⟨e ▸ h.1, h.2⟩)) ?_
  simp only [pickSegs, pickOps, List.map_cons, List.map_nil, Option.map_some, Option.map_none, Option.getD_some, List.getElem?_toArray, List.getElem?_cons_zero, List.getElem?_cons_succ]
  refine wpSegs_some fun K hK => ?_
  repeat go_big_quiet_step (fail)
  refine wpQuiet_nil ?_
  clear c0 c1 c2
  go_wp2_with fail
  have HX7 := Lib.hid (Ext.drew w7)
  have HE8 := Lib.hid (Ext.trans HE7.out HX7.out)
  have HZ8 := Lib.hid (kept_cell HZ7.out HX7.out)
  have HF8 := Lib.hid (show ∀ j, w7.drew.frozen? ⟨w.heap.size, j, none⟩ = false from fun j => by
    rw [frozen_ext HX7.out (lt_of_cell (HZ7.out 0 _ rfl))]
    exact HF7.out _)
  refine (Left_any W2.heap.size b t _ (Rdr.mono HRD7.out HX7.out)).mono ?_
  clear HO7
  rintro e w8 ⟨rfl, rfl⟩
  go_wp2_with fail
  refine ⟨Only.refl _ _, hK _ _ ?_⟩
  clear hK K
  refine wpSegs_some fun K hK => ?_
  have hml := HML.out
  rcases Classical.em (cap = L - t.length) with rfl | hcq
  have HRQ := Lib.hid (HRM1.out rfl)
  rotate_left
  have HRQ := Lib.hid (HRM2.out hcq)
  all_goals
    clear HRM1 HRM2
    repeat go_big_quiet_step (fail)
    refine wpQuiet_nil ?_
    go_wp2_with fail
    refine (bclone_any _ t _ (HRQ.out.mono HE8.out) (by have := HML.out; have := HLD.out; have := HL.out; omega)).mono ?_
    rintro e w9 ⟨v9, rfl, hown9, hx9⟩
    have HW9 := Lib.hid (show w9.ownsRow w7.drew.heap.size 5 1 v9 t.length (t.map bv) from by simpa using hown9)
    have HX9 := Lib.hid hx9
    have HE9 := Lib.hid (Ext.trans HE8.out hx9)
    have HZ9 := Lib.hid (kept_cell HZ8.out hx9)
    have hf9 : ∀ j, w9.frozen? ⟨w.heap.size, j, none⟩ = false := fun j => by
      rw [frozen_ext hx9 (lt_of_cell (HZ8.out 0 _ rfl))]
      exact HF8.out _
    have z0 := HZ9.out 0 _ rfl
    have z1 := HZ9.out 1 _ rfl
    have z2 := HZ9.out 2 _ rfl
    have g0 := hf9 0
    have g1 := hf9 1
    have g2 := hf9 2
    have HS := Lib.hid (three_stored HZ9.out (.int .u8 0) (.int .i64 0) (.string ⟨#[]⟩))
    clear hown9 hx9 hf9
    go_wp2_with fail
    refine ⟨Only.of_ext HX9.out, hK _ _ ?_⟩
    clear hK K
    refine wpSegs_some fun K hK => ?_
    refine wpQuiet_nil ?_
    go_wp2_with fail
    refine ⟨Only.trans (Only.trans (only_set _ 0 _ _) (only_set _ 1 _ _)) (only_set _ 2 _ _), hK _ _ ?_⟩
    clear hK K z0 z1 z2 g0 g1 g2
    refine wpSegs_none ?_
    repeat go_big_quiet_step (fail)
    refine wpQuiet_nil (wpSegs_nil ?_)
    go_wp2_with fail
    have k0 := HS.out 0 _ rfl
    have k1 := HS.out 1 _ rfl
    have k2 := HS.out 2 _ rfl
    refine bodyPost_ret (v := .tuple #[.agg #[.int .u8 0, .int .i64 0, .string ⟨#[]⟩], v9, .int .i64 0]) (by simp [results, Tryz.results167, go_sem, k0, k1, k2]) rfl ⟨.inl ⟨_, _, _, HTV.out, rfl, ?_⟩, ?_⟩
    · exact owns_base (owns_setO (owns_setO (owns_setO HW9.out (lt_of_cell (HZ8.out 0 _ rfl))) (lt_of_cell (HZ8.out 0 _ rfl))) (lt_of_cell (HZ8.out 0 _ rfl))) HE8.out.size
    · exact Below.setCell (Below.setCell (Below.setCell HE9.out (Nat.le_refl _) _) (Nat.le_refl _) _) (Nat.le_refl _) _
set_option maxRecDepth 100000 in
set_option maxHeartbeats 1000000 in
theorem take_1_bad (bb off L cap : Nat) (a1 : Option Addr) (cap1 : Nat) (t : List UInt8) (w : World) (N : Int) (hc0 : w.cell? ⟨bb, off, none⟩ = some (.int .u8 1)) (hrt : Rd w (.slice a1 (L - 1) cap1) t) (hsl : ∀ W, (Instr.slice 36 (.slice (some ⟨bb, off, none⟩) L cap) (some (.int .i64 1)) none none).run Tryz.prog W = .ok (.slice a1 (L - 1) cap1) W) (hLd : L = t.length + 1) (hl : t.length < 1000000) (hI : ∀ B b W, Rdr B W b t false → Calls Tryz.prog 174 #[.pointer (some ⟨b, 0, none⟩)] W fun e w' => e = .returned (.int .i64 N) ∧ Rdr B w' b [] true ∧ Only b W w') (htv : takeV (1 :: t) = none) :
    Calls Tryz.prog 167 #[.slice (some ⟨bb, off, none⟩) L cap] w (TookO w (1 :: t)) := by
  have HTV := Lib.hid htv
  have HLD := Lib.hid hLd
  have HL := Lib.hid hl
  have HRT := Lib.hid hrt
  have HI := Lib.hid hI
  have hlne : ((L : Int) == 0) = false := by rw [beq_eq_false_iff_ne]; omega
  have hL1 : 1 ≤ L := by omega
  have hLM : L ≤ 1000000 := by omega
  have hc1 : (w.alloc (.cells #[.int .u8 0, .int .i64 0, .string ⟨#[]⟩] 56)).cell? ⟨bb, off, none⟩ = some (.int .u8 1) := ((ext_one w _).cell (lt_of_cell hc0)).trans hc0
  clear htv hLd hl hrt hc0 hI
  have HE1 := Lib.hid (ext_two w (.cells #[.int .u8 0, .int .i64 0, .string ⟨#[]⟩] 56) (.cells #[.int .u8 1, .int .i64 0, .string ⟨#[]⟩] 56))
  have HZ0 := Lib.hid (cells_two0 w [.int .u8 0, .int .i64 0, .string ⟨#[]⟩] [.int .u8 1, .int .i64 0, .string ⟨#[]⟩] 56)
  have HZ1 := Lib.hid (cells_two1 w [.int .u8 0, .int .i64 0, .string ⟨#[]⟩] [.int .u8 1, .int .i64 0, .string ⟨#[]⟩] 56)
  have HSZ := Lib.hid (show ((w.alloc (.cells #[.int .u8 0, .int .i64 0, .string ⟨#[]⟩] 56)).alloc (.cells #[.int .u8 1, .int .i64 0, .string ⟨#[]⟩] 56)).heap.size = w.heap.size + 2 from by simp)
  have HF0 := Lib.hid (new_free0 w (.cells #[.int .u8 0, .int .i64 0, .string ⟨#[]⟩] 56) (.cells #[.int .u8 1, .int .i64 0, .string ⟨#[]⟩] 56) [.int .u8 0, .int .i64 0, .string ⟨#[]⟩] _ rfl)
  have HF1 := Lib.hid (new_free1 w (.cells #[.int .u8 0, .int .i64 0, .string ⟨#[]⟩] 56) (.cells #[.int .u8 1, .int .i64 0, .string ⟨#[]⟩] 56) [.int .u8 1, .int .i64 0, .string ⟨#[]⟩] _ rfl)
  go_enter Tryz.func167, Tryz.ntmps167
  go_wp2_with fail
  generalize (w.alloc (.cells #[.int .u8 0, .int .i64 0, .string ⟨#[]⟩] 56)).alloc (.cells #[.int .u8 1, .int .i64 0, .string ⟨#[]⟩] 56) = W2 at HE1 HZ0 HZ1 HSZ HF0 HF1 ⊢
  refine (New_any _ t W2 (HRT.out.mono HE1.out) (by have := HL.out; omega)).mono ?_
  rintro e w3 ⟨b, rfl, hb, hrd, hx3⟩
  have HB := Lib.hid (show w.heap.size + 2 ≤ b by have := HSZ.out; omega)
  have HRD := Lib.hid hrd
  have HX3 := Lib.hid hx3
  have HC3 := Lib.hid (kept_cell HZ1.out hx3)
  have c0 := HC3.out 0 _ rfl
  clear hb hrd hx3
  go_wp2_with fail
  refine (HI.out _ b w3 HRD.out).mono ?_
  rintro e w4 ⟨rfl, hrd4, ho4⟩
  have HX4 := Lib.hid (show Below (w.heap.size + 2) w3 w4 from Only.below ho4 HB.out (by have := HX3.out.size; have := HSZ.out; omega))
  have HC4 := Lib.hid (show ∀ j u, ([.int .u8 1, .int .i64 0, .string ⟨#[]⟩] : List Value)[j]? = some u → w4.cell? ⟨w.heap.size + 1, j, none⟩ = some u from only_kept HC3.out ho4 (by have := HB.out; omega))
  have HZ4 := Lib.hid (show ∀ j u, ([.int .u8 0, .int .i64 0, .string ⟨#[]⟩] : List Value)[j]? = some u → w4.cell? ⟨w.heap.size, j, none⟩ = some u from only_kept (kept_cell HZ0.out HX3.out) ho4 (by have := HB.out; omega))
  have c1 := HC4.out 1 _ rfl
  have f1 : w4.frozen? ⟨w.heap.size + 1, 1, none⟩ = false := by
    rw [only_frozen ho4 (by have := HX3.out.size; have := HSZ.out; omega) (by have := HB.out; omega), frozen_ext HX3.out (by have := HSZ.out; omega)]
    exact HF1.out _
  have HRD5 := Lib.hid (Rdr.set (i := 1) (u := .int .i64 N) hrd4 (g := w.heap.size + 1) (by have := HSZ.out; omega) (by have := HB.out; omega))
  have HE5 := Lib.hid (show Ext w (w4.setCell ⟨w.heap.size + 1, 1, none⟩ (.int .i64 N)) from Below.setCell (Below.trans (Ext.trans HE1.out HX3.out) (Below.mono HX4.out (by omega))) (Nat.le_succ _) _)
  have HC5 := Lib.hid (set_1 HC4.out (.int .i64 N))
  have HZ5 := Lib.hid (set_off (i := 1) (u := .int .i64 N) HZ4.out (g := w.heap.size + 1) (by omega))
  have HF5 := Lib.hid (show ∀ j, (w4.setCell ⟨w.heap.size + 1, 1, none⟩ (.int .i64 N)).frozen? ⟨w.heap.size, j, none⟩ = false from fun j => by
    have h : w4.frozen? ⟨w.heap.size, j, none⟩ = false := by
      rw [only_frozen ho4 (by have := HX3.out.size; have := HSZ.out; omega) (by have := HB.out; omega), frozen_ext HX3.out (by have := HSZ.out; omega)]
      exact HF0.out _
    simpa [go_sem] using h)
  clear hrd4 ho4
  go_wp2_with fail
  clear c0 c1 f1
  generalize w4.setCell ⟨w.heap.size + 1, 1, none⟩ (.int .i64 N) = W5 at HE5 HC5 HZ5 HF5 HRD5 ⊢
  refine (Bad_any W2.heap.size b [] true _ HRD5.out).mono ?_
  rintro e w6 ⟨rfl, rfl⟩
  have c0 := HC5.out 0 _ rfl
  have c1 := HC5.out 1 _ rfl
  have c2 := HC5.out 2 _ rfl
  have z0 := HZ5.out 0 _ rfl
  have z1 := HZ5.out 1 _ rfl
  have z2 := HZ5.out 2 _ rfl
  have g0 := HF5.out 0
  have g1 := HF5.out 1
  have g2 := HF5.out 2
  have HS := Lib.hid (three_stored HZ5.out (.int .u8 0) (.int .i64 0) (.string ⟨#[]⟩))
  go_wp2_with fail
  have k0 := HS.out 0 _ rfl
  have k1 := HS.out 1 _ rfl
  have k2 := HS.out 2 _ rfl
  clear c0 c1 c2 z0 z1 z2 g0 g1 g2
  refine bodyPost_ret (v := .tuple #[.agg #[.int .u8 0, .int .i64 0, .string ⟨#[]⟩], .slice none 0 0, .int .i64 6]) (by simp [results, Tryz.results167, go_sem, k0, k1, k2]) rfl ⟨.inr ⟨HTV.out, rfl⟩, ?_⟩
  exact Below.setCell (Below.setCell (Below.setCell HE5.out (Nat.le_refl _) _) (Nat.le_refl _) _) (Nat.le_refl _) _
set_option maxRecDepth 100000 in
set_option maxHeartbeats 1000000 in
theorem take_1_wrong (bb off L cap : Nat) (a1 : Option Addr) (cap1 : Nat) (t : List UInt8) (w : World) (m : List UInt8) (N : Int) (hc0 : w.cell? ⟨bb, off, none⟩ = some (.int .u8 1)) (hrt : Rd w (.slice a1 (L - 1) cap1) t) (hsl : ∀ W, (Instr.slice 36 (.slice (some ⟨bb, off, none⟩) L cap) (some (.int .i64 1)) none none).run Tryz.prog W = .ok (.slice a1 (L - 1) cap1) W) (hLd : L = t.length + 1) (hl : t.length < 1000000) (hI : ∀ B b W, Rdr B W b t false → Calls Tryz.prog 174 #[.pointer (some ⟨b, 0, none⟩)] W fun e w' => e = .returned (.int .i64 N) ∧ Rdr B w' b m false ∧ Only b W w') (hR : ∀ W, Calls Tryz.prog 105 #[.agg #[.int .u8 1, .int .i64 N, .string ⟨#[]⟩]] W fun e w' => e = .returned (.bool false) ∧ Ext W w') (htv : takeV (1 :: t) = none) :
    Calls Tryz.prog 167 #[.slice (some ⟨bb, off, none⟩) L cap] w (TookO w (1 :: t)) := by
  have HTV := Lib.hid htv
  have HLD := Lib.hid hLd
  have HL := Lib.hid hl
  have HRT := Lib.hid hrt
  have HI := Lib.hid hI
  have HR := Lib.hid hR
  have hlne : ((L : Int) == 0) = false := by rw [beq_eq_false_iff_ne]; omega
  have hL1 : 1 ≤ L := by omega
  have hLM : L ≤ 1000000 := by omega
  have hc1 : (w.alloc (.cells #[.int .u8 0, .int .i64 0, .string ⟨#[]⟩] 56)).cell? ⟨bb, off, none⟩ = some (.int .u8 1) := ((ext_one w _).cell (lt_of_cell hc0)).trans hc0
  clear htv hLd hl hrt hc0 hI hR
  have HE1 := Lib.hid (ext_two w (.cells #[.int .u8 0, .int .i64 0, .string ⟨#[]⟩] 56) (.cells #[.int .u8 1, .int .i64 0, .string ⟨#[]⟩] 56))
  have HZ0 := Lib.hid (cells_two0 w [.int .u8 0, .int .i64 0, .string ⟨#[]⟩] [.int .u8 1, .int .i64 0, .string ⟨#[]⟩] 56)
  have HZ1 := Lib.hid (cells_two1 w [.int .u8 0, .int .i64 0, .string ⟨#[]⟩] [.int .u8 1, .int .i64 0, .string ⟨#[]⟩] 56)
  have HSZ := Lib.hid (show ((w.alloc (.cells #[.int .u8 0, .int .i64 0, .string ⟨#[]⟩] 56)).alloc (.cells #[.int .u8 1, .int .i64 0, .string ⟨#[]⟩] 56)).heap.size = w.heap.size + 2 from by simp)
  have HF0 := Lib.hid (new_free0 w (.cells #[.int .u8 0, .int .i64 0, .string ⟨#[]⟩] 56) (.cells #[.int .u8 1, .int .i64 0, .string ⟨#[]⟩] 56) [.int .u8 0, .int .i64 0, .string ⟨#[]⟩] _ rfl)
  have HF1 := Lib.hid (new_free1 w (.cells #[.int .u8 0, .int .i64 0, .string ⟨#[]⟩] 56) (.cells #[.int .u8 1, .int .i64 0, .string ⟨#[]⟩] 56) [.int .u8 1, .int .i64 0, .string ⟨#[]⟩] _ rfl)
  go_enter Tryz.func167, Tryz.ntmps167
  go_wp2_with fail
  generalize (w.alloc (.cells #[.int .u8 0, .int .i64 0, .string ⟨#[]⟩] 56)).alloc (.cells #[.int .u8 1, .int .i64 0, .string ⟨#[]⟩] 56) = W2 at HE1 HZ0 HZ1 HSZ HF0 HF1 ⊢
  refine (New_any _ t W2 (HRT.out.mono HE1.out) (by have := HL.out; omega)).mono ?_
  rintro e w3 ⟨b, rfl, hb, hrd, hx3⟩
  have HB := Lib.hid (show w.heap.size + 2 ≤ b by have := HSZ.out; omega)
  have HRD := Lib.hid hrd
  have HX3 := Lib.hid hx3
  have HC3 := Lib.hid (kept_cell HZ1.out hx3)
  have c0 := HC3.out 0 _ rfl
  clear hb hrd hx3
  go_wp2_with fail
  refine (HI.out _ b w3 HRD.out).mono ?_
  rintro e w4 ⟨rfl, hrd4, ho4⟩
  have HX4 := Lib.hid (show Below (w.heap.size + 2) w3 w4 from Only.below ho4 HB.out (by have := HX3.out.size; have := HSZ.out; omega))
  have HC4 := Lib.hid (show ∀ j u, ([.int .u8 1, .int .i64 0, .string ⟨#[]⟩] : List Value)[j]? = some u → w4.cell? ⟨w.heap.size + 1, j, none⟩ = some u from only_kept HC3.out ho4 (by have := HB.out; omega))
  have HZ4 := Lib.hid (show ∀ j u, ([.int .u8 0, .int .i64 0, .string ⟨#[]⟩] : List Value)[j]? = some u → w4.cell? ⟨w.heap.size, j, none⟩ = some u from only_kept (kept_cell HZ0.out HX3.out) ho4 (by have := HB.out; omega))
  have c1 := HC4.out 1 _ rfl
  have f1 : w4.frozen? ⟨w.heap.size + 1, 1, none⟩ = false := by
    rw [only_frozen ho4 (by have := HX3.out.size; have := HSZ.out; omega) (by have := HB.out; omega), frozen_ext HX3.out (by have := HSZ.out; omega)]
    exact HF1.out _
  have HRD5 := Lib.hid (Rdr.set (i := 1) (u := .int .i64 N) hrd4 (g := w.heap.size + 1) (by have := HSZ.out; omega) (by have := HB.out; omega))
  have HE5 := Lib.hid (show Ext w (w4.setCell ⟨w.heap.size + 1, 1, none⟩ (.int .i64 N)) from Below.setCell (Below.trans (Ext.trans HE1.out HX3.out) (Below.mono HX4.out (by omega))) (Nat.le_succ _) _)
  have HC5 := Lib.hid (set_1 HC4.out (.int .i64 N))
  have HZ5 := Lib.hid (set_off (i := 1) (u := .int .i64 N) HZ4.out (g := w.heap.size + 1) (by omega))
  have HF5 := Lib.hid (show ∀ j, (w4.setCell ⟨w.heap.size + 1, 1, none⟩ (.int .i64 N)).frozen? ⟨w.heap.size, j, none⟩ = false from fun j => by
    have h : w4.frozen? ⟨w.heap.size, j, none⟩ = false := by
      rw [only_frozen ho4 (by have := HX3.out.size; have := HSZ.out; omega) (by have := HB.out; omega), frozen_ext HX3.out (by have := HSZ.out; omega)]
      exact HF0.out _
    simpa [go_sem] using h)
  clear hrd4 ho4
  go_wp2_with fail
  clear c0 c1 f1
  generalize w4.setCell ⟨w.heap.size + 1, 1, none⟩ (.int .i64 N) = W5 at HE5 HC5 HZ5 HF5 HRD5 ⊢
  refine (Bad_any W2.heap.size b m false _ HRD5.out).mono ?_
  rintro e w6 ⟨rfl, rfl⟩
  have c0 := HC5.out 0 _ rfl
  have c1 := HC5.out 1 _ rfl
  have c2 := HC5.out 2 _ rfl
  go_wp2_with fail
  refine (HR.out _).mono ?_
  rintro e w7 ⟨rfl, hx7⟩
  have HE7 := Lib.hid (Ext.trans HE5.out hx7)
  have HC7 := Lib.hid (kept_cell HC5.out hx7)
  have HZ7 := Lib.hid (kept_cell HZ5.out hx7)
  have HRD7 := Lib.hid (Rdr.mono HRD5.out hx7)
  have HF7 := Lib.hid (show ∀ j, w7.frozen? ⟨w.heap.size, j, none⟩ = false from fun j => by
    rw [frozen_ext hx7 (lt_of_cell (HZ5.out 0 _ rfl))]
    exact HF5.out _)
  clear hx7 c0 c1 c2
  have z0 := HZ7.out 0 _ rfl
  have z1 := HZ7.out 1 _ rfl
  have z2 := HZ7.out 2 _ rfl
  have g0 := HF7.out 0
  have g1 := HF7.out 1
  have g2 := HF7.out 2
  have HS := Lib.hid (three_stored HZ7.out (.int .u8 0) (.int .i64 0) (.string ⟨#[]⟩))
  go_wp2_with fail
  have k0 := HS.out 0 _ rfl
  have k1 := HS.out 1 _ rfl
  have k2 := HS.out 2 _ rfl
  clear z0 z1 z2 g0 g1 g2
  refine bodyPost_ret (v := .tuple #[.agg #[.int .u8 0, .int .i64 0, .string ⟨#[]⟩], .slice none 0 0, .int .i64 6]) (by simp [results, Tryz.results167, go_sem, k0, k1, k2]) rfl ⟨.inr ⟨HTV.out, rfl⟩, ?_⟩
  exact Below.setCell (Below.setCell (Below.setCell HE7.out (Nat.le_refl _) _) (Nat.le_refl _) _) (Nat.le_refl _) _
set_option maxRecDepth 100000 in
set_option maxHeartbeats 1000000 in
theorem take_1_right (bb off L cap : Nat) (a1 : Option Addr) (cap1 : Nat) (t : List UInt8) (w : World) (m : List UInt8) (N : Int) (hc0 : w.cell? ⟨bb, off, none⟩ = some (.int .u8 1)) (hrt : Rd w (.slice a1 (L - 1) cap1) t) (hsl : ∀ W, (Instr.slice 36 (.slice (some ⟨bb, off, none⟩) L cap) (some (.int .i64 1)) none none).run Tryz.prog W = .ok (.slice a1 (L - 1) cap1) W) (hLd : L = t.length + 1) (hl : t.length < 1000000) (hI : ∀ B b W, Rdr B W b t false → Calls Tryz.prog 174 #[.pointer (some ⟨b, 0, none⟩)] W fun e w' => e = .returned (.int .i64 N) ∧ Rdr B w' b m false ∧ Only b W w') (hR : ∀ W, Calls Tryz.prog 105 #[.agg #[.int .u8 1, .int .i64 N, .string ⟨#[]⟩]] W fun e w' => e = .returned (.bool true) ∧ Ext W w') (hrm1 : cap = L - m.length → Rd w (.slice (some ⟨bb, off, none⟩) (L - (L - m.length)) 0) m) (hrm2 : ¬ cap = L - m.length → Rd w (.slice (some ⟨bb, off + (L - m.length), none⟩) (L - (L - m.length)) (cap - (L - m.length))) m) (hml : m.length ≤ L) (htv : takeV (1 :: t) = some (⟨1, N, []⟩, m)) :
    Calls Tryz.prog 167 #[.slice (some ⟨bb, off, none⟩) L cap] w (TookO w (1 :: t)) := by
  have HTV := Lib.hid htv
  have HLD := Lib.hid hLd
  have HL := Lib.hid hl
  have HRT := Lib.hid hrt
  have HI := Lib.hid hI
  have HR := Lib.hid hR
  have HRM1 := Lib.hid hrm1
  have HRM2 := Lib.hid hrm2
  have HML := Lib.hid hml
  clear hrm1 hrm2 hml
  have hlne : ((L : Int) == 0) = false := by rw [beq_eq_false_iff_ne]; omega
  have hL1 : 1 ≤ L := by omega
  have hLM : L ≤ 1000000 := by omega
  have hc1 : (w.alloc (.cells #[.int .u8 0, .int .i64 0, .string ⟨#[]⟩] 56)).cell? ⟨bb, off, none⟩ = some (.int .u8 1) := ((ext_one w _).cell (lt_of_cell hc0)).trans hc0
  clear htv hLd hl hrt hc0 hI hR
  have HE1 := Lib.hid (ext_two w (.cells #[.int .u8 0, .int .i64 0, .string ⟨#[]⟩] 56) (.cells #[.int .u8 1, .int .i64 0, .string ⟨#[]⟩] 56))
  have HZ0 := Lib.hid (cells_two0 w [.int .u8 0, .int .i64 0, .string ⟨#[]⟩] [.int .u8 1, .int .i64 0, .string ⟨#[]⟩] 56)
  have HZ1 := Lib.hid (cells_two1 w [.int .u8 0, .int .i64 0, .string ⟨#[]⟩] [.int .u8 1, .int .i64 0, .string ⟨#[]⟩] 56)
  have HSZ := Lib.hid (show ((w.alloc (.cells #[.int .u8 0, .int .i64 0, .string ⟨#[]⟩] 56)).alloc (.cells #[.int .u8 1, .int .i64 0, .string ⟨#[]⟩] 56)).heap.size = w.heap.size + 2 from by simp)
  have HF0 := Lib.hid (new_free0 w (.cells #[.int .u8 0, .int .i64 0, .string ⟨#[]⟩] 56) (.cells #[.int .u8 1, .int .i64 0, .string ⟨#[]⟩] 56) [.int .u8 0, .int .i64 0, .string ⟨#[]⟩] _ rfl)
  have HF1 := Lib.hid (new_free1 w (.cells #[.int .u8 0, .int .i64 0, .string ⟨#[]⟩] 56) (.cells #[.int .u8 1, .int .i64 0, .string ⟨#[]⟩] 56) [.int .u8 1, .int .i64 0, .string ⟨#[]⟩] _ rfl)
  go_enter Tryz.func167, Tryz.ntmps167
  go_wp2_with fail
  generalize (w.alloc (.cells #[.int .u8 0, .int .i64 0, .string ⟨#[]⟩] 56)).alloc (.cells #[.int .u8 1, .int .i64 0, .string ⟨#[]⟩] 56) = W2 at HE1 HZ0 HZ1 HSZ HF0 HF1 ⊢
  refine (New_any _ t W2 (HRT.out.mono HE1.out) (by have := HL.out; omega)).mono ?_
  rintro e w3 ⟨b, rfl, hb, hrd, hx3⟩
  have HB := Lib.hid (show w.heap.size + 2 ≤ b by have := HSZ.out; omega)
  have HRD := Lib.hid hrd
  have HX3 := Lib.hid hx3
  have HC3 := Lib.hid (kept_cell HZ1.out hx3)
  have c0 := HC3.out 0 _ rfl
  clear hb hrd hx3
  go_wp2_with fail
  refine (HI.out _ b w3 HRD.out).mono ?_
  rintro e w4 ⟨rfl, hrd4, ho4⟩
  have HX4 := Lib.hid (show Below (w.heap.size + 2) w3 w4 from Only.below ho4 HB.out (by have := HX3.out.size; have := HSZ.out; omega))
  have HC4 := Lib.hid (show ∀ j u, ([.int .u8 1, .int .i64 0, .string ⟨#[]⟩] : List Value)[j]? = some u → w4.cell? ⟨w.heap.size + 1, j, none⟩ = some u from only_kept HC3.out ho4 (by have := HB.out; omega))
  have HZ4 := Lib.hid (show ∀ j u, ([.int .u8 0, .int .i64 0, .string ⟨#[]⟩] : List Value)[j]? = some u → w4.cell? ⟨w.heap.size, j, none⟩ = some u from only_kept (kept_cell HZ0.out HX3.out) ho4 (by have := HB.out; omega))
  have c1 := HC4.out 1 _ rfl
  have f1 : w4.frozen? ⟨w.heap.size + 1, 1, none⟩ = false := by
    rw [only_frozen ho4 (by have := HX3.out.size; have := HSZ.out; omega) (by have := HB.out; omega), frozen_ext HX3.out (by have := HSZ.out; omega)]
    exact HF1.out _
  have HRD5 := Lib.hid (Rdr.set (i := 1) (u := .int .i64 N) hrd4 (g := w.heap.size + 1) (by have := HSZ.out; omega) (by have := HB.out; omega))
  have HE5 := Lib.hid (show Ext w (w4.setCell ⟨w.heap.size + 1, 1, none⟩ (.int .i64 N)) from Below.setCell (Below.trans (Ext.trans HE1.out HX3.out) (Below.mono HX4.out (by omega))) (Nat.le_succ _) _)
  have HC5 := Lib.hid (set_1 HC4.out (.int .i64 N))
  have HZ5 := Lib.hid (set_off (i := 1) (u := .int .i64 N) HZ4.out (g := w.heap.size + 1) (by omega))
  have HF5 := Lib.hid (show ∀ j, (w4.setCell ⟨w.heap.size + 1, 1, none⟩ (.int .i64 N)).frozen? ⟨w.heap.size, j, none⟩ = false from fun j => by
    have h : w4.frozen? ⟨w.heap.size, j, none⟩ = false := by
      rw [only_frozen ho4 (by have := HX3.out.size; have := HSZ.out; omega) (by have := HB.out; omega), frozen_ext HX3.out (by have := HSZ.out; omega)]
      exact HF0.out _
    simpa [go_sem] using h)
  clear hrd4 ho4
  go_wp2_with fail
  clear c0 c1 f1
  generalize w4.setCell ⟨w.heap.size + 1, 1, none⟩ (.int .i64 N) = W5 at HE5 HC5 HZ5 HF5 HRD5 ⊢
  refine (Bad_any W2.heap.size b m false _ HRD5.out).mono ?_
  rintro e w6 ⟨rfl, rfl⟩
  have c0 := HC5.out 0 _ rfl
  have c1 := HC5.out 1 _ rfl
  have c2 := HC5.out 2 _ rfl
  go_wp2_with fail
  refine (HR.out _).mono ?_
  rintro e w7 ⟨rfl, hx7⟩
  have HE7 := Lib.hid (Ext.trans HE5.out hx7)
  have HC7 := Lib.hid (kept_cell HC5.out hx7)
  have HZ7 := Lib.hid (kept_cell HZ5.out hx7)
  have HRD7 := Lib.hid (Rdr.mono HRD5.out hx7)
  have HF7 := Lib.hid (show ∀ j, w7.frozen? ⟨w.heap.size, j, none⟩ = false from fun j => by
    rw [frozen_ext hx7 (lt_of_cell (HZ5.out 0 _ rfl))]
    exact HF5.out _)
  clear hx7 c0 c1 c2
  have HO7 := Lib.hid (only_drew w.heap.size w7)
  have c0 := only_cells HC7.out HO7.out (by omega) 0 _ rfl
  have c1 := only_cells HC7.out HO7.out (by omega) 1 _ rfl
  have c2 := only_cells HC7.out HO7.out (by omega) 2 _ rfl
  go_wp2_with fail
  refine wp_region_segs (Only w.heap.size) (Only.keeps _) [([0, 1, 2, 3, 4], some 5), ([6, 7], some 8), ([], some 9), ([10, 11], none)] (by kernel_rfl) (by kernel_rfl) (fun c a a' w e h => (by exact ⟨e ▸ h.1, h.2⟩)) ?_
  simp only [pickSegs, pickOps, List.map_cons, List.map_nil, Option.map_some, Option.map_none, Option.getD_some, List.getElem?_toArray, List.getElem?_cons_zero, List.getElem?_cons_succ]
  refine wpSegs_some fun K hK => ?_
  repeat go_big_quiet_step (fail)
  refine wpQuiet_nil ?_
  clear c0 c1 c2
  go_wp2_with fail
  have HX7 := Lib.hid (Ext.drew w7)
  have HE8 := Lib.hid (Ext.trans HE7.out HX7.out)
  have HZ8 := Lib.hid (kept_cell HZ7.out HX7.out)
  have HF8 := Lib.hid (show ∀ j, w7.drew.frozen? ⟨w.heap.size, j, none⟩ = false from fun j => by
    rw [frozen_ext HX7.out (lt_of_cell (HZ7.out 0 _ rfl))]
    exact HF7.out _)
  refine (Left_any W2.heap.size b m _ (Rdr.mono HRD7.out HX7.out)).mono ?_
  clear HO7
  rintro e w8 ⟨rfl, rfl⟩
  go_wp2_with fail
  refine ⟨Only.refl _ _, hK _ _ ?_⟩
  clear hK K
  refine wpSegs_some fun K hK => ?_
  have hml := HML.out
  rcases Classical.em (cap = L - m.length) with rfl | hcq
  have HRQ := Lib.hid (HRM1.out rfl)
  rotate_left
  have HRQ := Lib.hid (HRM2.out hcq)
  all_goals
    clear HRM1 HRM2
    repeat go_big_quiet_step (fail)
    refine wpQuiet_nil ?_
    go_wp2_with fail
    refine (bclone_any _ m _ (HRQ.out.mono HE8.out) (by have := HML.out; have := HLD.out; have := HL.out; omega)).mono ?_
    rintro e w9 ⟨v9, rfl, hown9, hx9⟩
    have HW9 := Lib.hid (show w9.ownsRow w7.drew.heap.size 5 1 v9 m.length (m.map bv) from by simpa using hown9)
    have HX9 := Lib.hid hx9
    have HE9 := Lib.hid (Ext.trans HE8.out hx9)
    have HZ9 := Lib.hid (kept_cell HZ8.out hx9)
    have hf9 : ∀ j, w9.frozen? ⟨w.heap.size, j, none⟩ = false := fun j => by
      rw [frozen_ext hx9 (lt_of_cell (HZ8.out 0 _ rfl))]
      exact HF8.out _
    have z0 := HZ9.out 0 _ rfl
    have z1 := HZ9.out 1 _ rfl
    have z2 := HZ9.out 2 _ rfl
    have g0 := hf9 0
    have g1 := hf9 1
    have g2 := hf9 2
    have HS := Lib.hid (three_stored HZ9.out (.int .u8 1) (.int .i64 N) (.string ⟨#[]⟩))
    clear hown9 hx9 hf9
    go_wp2_with fail
    refine ⟨Only.of_ext HX9.out, hK _ _ ?_⟩
    clear hK K
    refine wpSegs_some fun K hK => ?_
    refine wpQuiet_nil ?_
    go_wp2_with fail
    refine ⟨Only.trans (Only.trans (only_set _ 0 _ _) (only_set _ 1 _ _)) (only_set _ 2 _ _), hK _ _ ?_⟩
    clear hK K z0 z1 z2 g0 g1 g2
    refine wpSegs_none ?_
    repeat go_big_quiet_step (fail)
    refine wpQuiet_nil (wpSegs_nil ?_)
    go_wp2_with fail
    have k0 := HS.out 0 _ rfl
    have k1 := HS.out 1 _ rfl
    have k2 := HS.out 2 _ rfl
    refine bodyPost_ret (v := .tuple #[.agg #[.int .u8 1, .int .i64 N, .string ⟨#[]⟩], v9, .int .i64 0]) (by simp [results, Tryz.results167, go_sem, k0, k1, k2]) rfl ⟨.inl ⟨_, _, _, HTV.out, rfl, ?_⟩, ?_⟩
    · exact owns_base (owns_setO (owns_setO (owns_setO HW9.out (lt_of_cell (HZ8.out 0 _ rfl))) (lt_of_cell (HZ8.out 0 _ rfl))) (lt_of_cell (HZ8.out 0 _ rfl))) HE8.out.size
    · exact Below.setCell (Below.setCell (Below.setCell HE9.out (Nat.le_refl _) _) (Nat.le_refl _) _) (Nat.le_refl _) _
set_option maxRecDepth 100000 in
set_option maxHeartbeats 1000000 in
theorem take_2_bad (bb off L cap : Nat) (a1 : Option Addr) (cap1 : Nat) (t : List UInt8) (w : World) (N : Int) (hc0 : w.cell? ⟨bb, off, none⟩ = some (.int .u8 2)) (hrt : Rd w (.slice a1 (L - 1) cap1) t) (hsl : ∀ W, (Instr.slice 36 (.slice (some ⟨bb, off, none⟩) L cap) (some (.int .i64 1)) none none).run Tryz.prog W = .ok (.slice a1 (L - 1) cap1) W) (hLd : L = t.length + 1) (hl : t.length < 1000000) (hI : ∀ B b W, Rdr B W b t false → Calls Tryz.prog 174 #[.pointer (some ⟨b, 0, none⟩)] W fun e w' => e = .returned (.int .i64 N) ∧ Rdr B w' b [] true ∧ Only b W w') (htv : takeV (2 :: t) = none) :
    Calls Tryz.prog 167 #[.slice (some ⟨bb, off, none⟩) L cap] w (TookO w (2 :: t)) := by
  have HTV := Lib.hid htv
  have HLD := Lib.hid hLd
  have HL := Lib.hid hl
  have HRT := Lib.hid hrt
  have HI := Lib.hid hI
  have hlne : ((L : Int) == 0) = false := by rw [beq_eq_false_iff_ne]; omega
  have hL1 : 1 ≤ L := by omega
  have hLM : L ≤ 1000000 := by omega
  have hc1 : (w.alloc (.cells #[.int .u8 0, .int .i64 0, .string ⟨#[]⟩] 56)).cell? ⟨bb, off, none⟩ = some (.int .u8 2) := ((ext_one w _).cell (lt_of_cell hc0)).trans hc0
  clear htv hLd hl hrt hc0 hI
  have HE1 := Lib.hid (ext_two w (.cells #[.int .u8 0, .int .i64 0, .string ⟨#[]⟩] 56) (.cells #[.int .u8 2, .int .i64 0, .string ⟨#[]⟩] 56))
  have HZ0 := Lib.hid (cells_two0 w [.int .u8 0, .int .i64 0, .string ⟨#[]⟩] [.int .u8 2, .int .i64 0, .string ⟨#[]⟩] 56)
  have HZ1 := Lib.hid (cells_two1 w [.int .u8 0, .int .i64 0, .string ⟨#[]⟩] [.int .u8 2, .int .i64 0, .string ⟨#[]⟩] 56)
  have HSZ := Lib.hid (show ((w.alloc (.cells #[.int .u8 0, .int .i64 0, .string ⟨#[]⟩] 56)).alloc (.cells #[.int .u8 2, .int .i64 0, .string ⟨#[]⟩] 56)).heap.size = w.heap.size + 2 from by simp)
  have HF0 := Lib.hid (new_free0 w (.cells #[.int .u8 0, .int .i64 0, .string ⟨#[]⟩] 56) (.cells #[.int .u8 2, .int .i64 0, .string ⟨#[]⟩] 56) [.int .u8 0, .int .i64 0, .string ⟨#[]⟩] _ rfl)
  have HF1 := Lib.hid (new_free1 w (.cells #[.int .u8 0, .int .i64 0, .string ⟨#[]⟩] 56) (.cells #[.int .u8 2, .int .i64 0, .string ⟨#[]⟩] 56) [.int .u8 2, .int .i64 0, .string ⟨#[]⟩] _ rfl)
  go_enter Tryz.func167, Tryz.ntmps167
  go_wp2_with fail
  generalize (w.alloc (.cells #[.int .u8 0, .int .i64 0, .string ⟨#[]⟩] 56)).alloc (.cells #[.int .u8 2, .int .i64 0, .string ⟨#[]⟩] 56) = W2 at HE1 HZ0 HZ1 HSZ HF0 HF1 ⊢
  refine (New_any _ t W2 (HRT.out.mono HE1.out) (by have := HL.out; omega)).mono ?_
  rintro e w3 ⟨b, rfl, hb, hrd, hx3⟩
  have HB := Lib.hid (show w.heap.size + 2 ≤ b by have := HSZ.out; omega)
  have HRD := Lib.hid hrd
  have HX3 := Lib.hid hx3
  have HC3 := Lib.hid (kept_cell HZ1.out hx3)
  have c0 := HC3.out 0 _ rfl
  clear hb hrd hx3
  go_wp2_with fail
  refine (HI.out _ b w3 HRD.out).mono ?_
  rintro e w4 ⟨rfl, hrd4, ho4⟩
  have HX4 := Lib.hid (show Below (w.heap.size + 2) w3 w4 from Only.below ho4 HB.out (by have := HX3.out.size; have := HSZ.out; omega))
  have HC4 := Lib.hid (show ∀ j u, ([.int .u8 2, .int .i64 0, .string ⟨#[]⟩] : List Value)[j]? = some u → w4.cell? ⟨w.heap.size + 1, j, none⟩ = some u from only_kept HC3.out ho4 (by have := HB.out; omega))
  have HZ4 := Lib.hid (show ∀ j u, ([.int .u8 0, .int .i64 0, .string ⟨#[]⟩] : List Value)[j]? = some u → w4.cell? ⟨w.heap.size, j, none⟩ = some u from only_kept (kept_cell HZ0.out HX3.out) ho4 (by have := HB.out; omega))
  have c1 := HC4.out 1 _ rfl
  have f1 : w4.frozen? ⟨w.heap.size + 1, 1, none⟩ = false := by
    rw [only_frozen ho4 (by have := HX3.out.size; have := HSZ.out; omega) (by have := HB.out; omega), frozen_ext HX3.out (by have := HSZ.out; omega)]
    exact HF1.out _
  have HRD5 := Lib.hid (Rdr.set (i := 1) (u := .int .i64 N) hrd4 (g := w.heap.size + 1) (by have := HSZ.out; omega) (by have := HB.out; omega))
  have HE5 := Lib.hid (show Ext w (w4.setCell ⟨w.heap.size + 1, 1, none⟩ (.int .i64 N)) from Below.setCell (Below.trans (Ext.trans HE1.out HX3.out) (Below.mono HX4.out (by omega))) (Nat.le_succ _) _)
  have HC5 := Lib.hid (set_1 HC4.out (.int .i64 N))
  have HZ5 := Lib.hid (set_off (i := 1) (u := .int .i64 N) HZ4.out (g := w.heap.size + 1) (by omega))
  have HF5 := Lib.hid (show ∀ j, (w4.setCell ⟨w.heap.size + 1, 1, none⟩ (.int .i64 N)).frozen? ⟨w.heap.size, j, none⟩ = false from fun j => by
    have h : w4.frozen? ⟨w.heap.size, j, none⟩ = false := by
      rw [only_frozen ho4 (by have := HX3.out.size; have := HSZ.out; omega) (by have := HB.out; omega), frozen_ext HX3.out (by have := HSZ.out; omega)]
      exact HF0.out _
    simpa [go_sem] using h)
  clear hrd4 ho4
  go_wp2_with fail
  clear c0 c1 f1
  generalize w4.setCell ⟨w.heap.size + 1, 1, none⟩ (.int .i64 N) = W5 at HE5 HC5 HZ5 HF5 HRD5 ⊢
  refine (Bad_any W2.heap.size b [] true _ HRD5.out).mono ?_
  rintro e w6 ⟨rfl, rfl⟩
  have c0 := HC5.out 0 _ rfl
  have c1 := HC5.out 1 _ rfl
  have c2 := HC5.out 2 _ rfl
  have z0 := HZ5.out 0 _ rfl
  have z1 := HZ5.out 1 _ rfl
  have z2 := HZ5.out 2 _ rfl
  have g0 := HF5.out 0
  have g1 := HF5.out 1
  have g2 := HF5.out 2
  have HS := Lib.hid (three_stored HZ5.out (.int .u8 0) (.int .i64 0) (.string ⟨#[]⟩))
  go_wp2_with fail
  have k0 := HS.out 0 _ rfl
  have k1 := HS.out 1 _ rfl
  have k2 := HS.out 2 _ rfl
  clear c0 c1 c2 z0 z1 z2 g0 g1 g2
  refine bodyPost_ret (v := .tuple #[.agg #[.int .u8 0, .int .i64 0, .string ⟨#[]⟩], .slice none 0 0, .int .i64 6]) (by simp [results, Tryz.results167, go_sem, k0, k1, k2]) rfl ⟨.inr ⟨HTV.out, rfl⟩, ?_⟩
  exact Below.setCell (Below.setCell (Below.setCell HE5.out (Nat.le_refl _) _) (Nat.le_refl _) _) (Nat.le_refl _) _
set_option maxRecDepth 100000 in
set_option maxHeartbeats 1000000 in
theorem take_2_right (bb off L cap : Nat) (a1 : Option Addr) (cap1 : Nat) (t : List UInt8) (w : World) (m : List UInt8) (N : Int) (hc0 : w.cell? ⟨bb, off, none⟩ = some (.int .u8 2)) (hrt : Rd w (.slice a1 (L - 1) cap1) t) (hsl : ∀ W, (Instr.slice 36 (.slice (some ⟨bb, off, none⟩) L cap) (some (.int .i64 1)) none none).run Tryz.prog W = .ok (.slice a1 (L - 1) cap1) W) (hLd : L = t.length + 1) (hl : t.length < 1000000) (hI : ∀ B b W, Rdr B W b t false → Calls Tryz.prog 174 #[.pointer (some ⟨b, 0, none⟩)] W fun e w' => e = .returned (.int .i64 N) ∧ Rdr B w' b m false ∧ Only b W w') (hR : ∀ W, Calls Tryz.prog 105 #[.agg #[.int .u8 2, .int .i64 N, .string ⟨#[]⟩]] W fun e w' => e = .returned (.bool true) ∧ Ext W w') (hrm1 : cap = L - m.length → Rd w (.slice (some ⟨bb, off, none⟩) (L - (L - m.length)) 0) m) (hrm2 : ¬ cap = L - m.length → Rd w (.slice (some ⟨bb, off + (L - m.length), none⟩) (L - (L - m.length)) (cap - (L - m.length))) m) (hml : m.length ≤ L) (htv : takeV (2 :: t) = some (⟨2, N, []⟩, m)) :
    Calls Tryz.prog 167 #[.slice (some ⟨bb, off, none⟩) L cap] w (TookO w (2 :: t)) := by
  have HTV := Lib.hid htv
  have HLD := Lib.hid hLd
  have HL := Lib.hid hl
  have HRT := Lib.hid hrt
  have HI := Lib.hid hI
  have HR := Lib.hid hR
  have HRM1 := Lib.hid hrm1
  have HRM2 := Lib.hid hrm2
  have HML := Lib.hid hml
  clear hrm1 hrm2 hml
  have hlne : ((L : Int) == 0) = false := by rw [beq_eq_false_iff_ne]; omega
  have hL1 : 1 ≤ L := by omega
  have hLM : L ≤ 1000000 := by omega
  have hc1 : (w.alloc (.cells #[.int .u8 0, .int .i64 0, .string ⟨#[]⟩] 56)).cell? ⟨bb, off, none⟩ = some (.int .u8 2) := ((ext_one w _).cell (lt_of_cell hc0)).trans hc0
  clear htv hLd hl hrt hc0 hI hR
  have HE1 := Lib.hid (ext_two w (.cells #[.int .u8 0, .int .i64 0, .string ⟨#[]⟩] 56) (.cells #[.int .u8 2, .int .i64 0, .string ⟨#[]⟩] 56))
  have HZ0 := Lib.hid (cells_two0 w [.int .u8 0, .int .i64 0, .string ⟨#[]⟩] [.int .u8 2, .int .i64 0, .string ⟨#[]⟩] 56)
  have HZ1 := Lib.hid (cells_two1 w [.int .u8 0, .int .i64 0, .string ⟨#[]⟩] [.int .u8 2, .int .i64 0, .string ⟨#[]⟩] 56)
  have HSZ := Lib.hid (show ((w.alloc (.cells #[.int .u8 0, .int .i64 0, .string ⟨#[]⟩] 56)).alloc (.cells #[.int .u8 2, .int .i64 0, .string ⟨#[]⟩] 56)).heap.size = w.heap.size + 2 from by simp)
  have HF0 := Lib.hid (new_free0 w (.cells #[.int .u8 0, .int .i64 0, .string ⟨#[]⟩] 56) (.cells #[.int .u8 2, .int .i64 0, .string ⟨#[]⟩] 56) [.int .u8 0, .int .i64 0, .string ⟨#[]⟩] _ rfl)
  have HF1 := Lib.hid (new_free1 w (.cells #[.int .u8 0, .int .i64 0, .string ⟨#[]⟩] 56) (.cells #[.int .u8 2, .int .i64 0, .string ⟨#[]⟩] 56) [.int .u8 2, .int .i64 0, .string ⟨#[]⟩] _ rfl)
  go_enter Tryz.func167, Tryz.ntmps167
  go_wp2_with fail
  generalize (w.alloc (.cells #[.int .u8 0, .int .i64 0, .string ⟨#[]⟩] 56)).alloc (.cells #[.int .u8 2, .int .i64 0, .string ⟨#[]⟩] 56) = W2 at HE1 HZ0 HZ1 HSZ HF0 HF1 ⊢
  refine (New_any _ t W2 (HRT.out.mono HE1.out) (by have := HL.out; omega)).mono ?_
  rintro e w3 ⟨b, rfl, hb, hrd, hx3⟩
  have HB := Lib.hid (show w.heap.size + 2 ≤ b by have := HSZ.out; omega)
  have HRD := Lib.hid hrd
  have HX3 := Lib.hid hx3
  have HC3 := Lib.hid (kept_cell HZ1.out hx3)
  have c0 := HC3.out 0 _ rfl
  clear hb hrd hx3
  go_wp2_with fail
  refine (HI.out _ b w3 HRD.out).mono ?_
  rintro e w4 ⟨rfl, hrd4, ho4⟩
  have HX4 := Lib.hid (show Below (w.heap.size + 2) w3 w4 from Only.below ho4 HB.out (by have := HX3.out.size; have := HSZ.out; omega))
  have HC4 := Lib.hid (show ∀ j u, ([.int .u8 2, .int .i64 0, .string ⟨#[]⟩] : List Value)[j]? = some u → w4.cell? ⟨w.heap.size + 1, j, none⟩ = some u from only_kept HC3.out ho4 (by have := HB.out; omega))
  have HZ4 := Lib.hid (show ∀ j u, ([.int .u8 0, .int .i64 0, .string ⟨#[]⟩] : List Value)[j]? = some u → w4.cell? ⟨w.heap.size, j, none⟩ = some u from only_kept (kept_cell HZ0.out HX3.out) ho4 (by have := HB.out; omega))
  have c1 := HC4.out 1 _ rfl
  have f1 : w4.frozen? ⟨w.heap.size + 1, 1, none⟩ = false := by
    rw [only_frozen ho4 (by have := HX3.out.size; have := HSZ.out; omega) (by have := HB.out; omega), frozen_ext HX3.out (by have := HSZ.out; omega)]
    exact HF1.out _
  have HRD5 := Lib.hid (Rdr.set (i := 1) (u := .int .i64 N) hrd4 (g := w.heap.size + 1) (by have := HSZ.out; omega) (by have := HB.out; omega))
  have HE5 := Lib.hid (show Ext w (w4.setCell ⟨w.heap.size + 1, 1, none⟩ (.int .i64 N)) from Below.setCell (Below.trans (Ext.trans HE1.out HX3.out) (Below.mono HX4.out (by omega))) (Nat.le_succ _) _)
  have HC5 := Lib.hid (set_1 HC4.out (.int .i64 N))
  have HZ5 := Lib.hid (set_off (i := 1) (u := .int .i64 N) HZ4.out (g := w.heap.size + 1) (by omega))
  have HF5 := Lib.hid (show ∀ j, (w4.setCell ⟨w.heap.size + 1, 1, none⟩ (.int .i64 N)).frozen? ⟨w.heap.size, j, none⟩ = false from fun j => by
    have h : w4.frozen? ⟨w.heap.size, j, none⟩ = false := by
      rw [only_frozen ho4 (by have := HX3.out.size; have := HSZ.out; omega) (by have := HB.out; omega), frozen_ext HX3.out (by have := HSZ.out; omega)]
      exact HF0.out _
    simpa [go_sem] using h)
  clear hrd4 ho4
  go_wp2_with fail
  clear c0 c1 f1
  generalize w4.setCell ⟨w.heap.size + 1, 1, none⟩ (.int .i64 N) = W5 at HE5 HC5 HZ5 HF5 HRD5 ⊢
  refine (Bad_any W2.heap.size b m false _ HRD5.out).mono ?_
  rintro e w6 ⟨rfl, rfl⟩
  have c0 := HC5.out 0 _ rfl
  have c1 := HC5.out 1 _ rfl
  have c2 := HC5.out 2 _ rfl
  go_wp2_with fail
  refine (HR.out _).mono ?_
  rintro e w7 ⟨rfl, hx7⟩
  have HE7 := Lib.hid (Ext.trans HE5.out hx7)
  have HC7 := Lib.hid (kept_cell HC5.out hx7)
  have HZ7 := Lib.hid (kept_cell HZ5.out hx7)
  have HRD7 := Lib.hid (Rdr.mono HRD5.out hx7)
  have HF7 := Lib.hid (show ∀ j, w7.frozen? ⟨w.heap.size, j, none⟩ = false from fun j => by
    rw [frozen_ext hx7 (lt_of_cell (HZ5.out 0 _ rfl))]
    exact HF5.out _)
  clear hx7 c0 c1 c2
  have HO7 := Lib.hid (only_drew w.heap.size w7)
  have c0 := only_cells HC7.out HO7.out (by omega) 0 _ rfl
  have c1 := only_cells HC7.out HO7.out (by omega) 1 _ rfl
  have c2 := only_cells HC7.out HO7.out (by omega) 2 _ rfl
  go_wp2_with fail
  refine wp_region_segs (Only w.heap.size) (Only.keeps _) [([0, 1, 2, 3, 4], some 5), ([6, 7], some 8), ([], some 9), ([10, 11], none)] (by kernel_rfl) (by kernel_rfl) (fun c a a' w e h => (by exact ⟨e ▸ h.1, h.2⟩)) ?_
  simp only [pickSegs, pickOps, List.map_cons, List.map_nil, Option.map_some, Option.map_none, Option.getD_some, List.getElem?_toArray, List.getElem?_cons_zero, List.getElem?_cons_succ]
  refine wpSegs_some fun K hK => ?_
  repeat go_big_quiet_step (fail)
  refine wpQuiet_nil ?_
  clear c0 c1 c2
  go_wp2_with fail
  have HX7 := Lib.hid (Ext.drew w7)
  have HE8 := Lib.hid (Ext.trans HE7.out HX7.out)
  have HZ8 := Lib.hid (kept_cell HZ7.out HX7.out)
  have HF8 := Lib.hid (show ∀ j, w7.drew.frozen? ⟨w.heap.size, j, none⟩ = false from fun j => by
    rw [frozen_ext HX7.out (lt_of_cell (HZ7.out 0 _ rfl))]
    exact HF7.out _)
  refine (Left_any W2.heap.size b m _ (Rdr.mono HRD7.out HX7.out)).mono ?_
  clear HO7
  rintro e w8 ⟨rfl, rfl⟩
  go_wp2_with fail
  refine ⟨Only.refl _ _, hK _ _ ?_⟩
  clear hK K
  refine wpSegs_some fun K hK => ?_
  have hml := HML.out
  rcases Classical.em (cap = L - m.length) with rfl | hcq
  have HRQ := Lib.hid (HRM1.out rfl)
  rotate_left
  have HRQ := Lib.hid (HRM2.out hcq)
  all_goals
    clear HRM1 HRM2
    repeat go_big_quiet_step (fail)
    refine wpQuiet_nil ?_
    go_wp2_with fail
    refine (bclone_any _ m _ (HRQ.out.mono HE8.out) (by have := HML.out; have := HLD.out; have := HL.out; omega)).mono ?_
    rintro e w9 ⟨v9, rfl, hown9, hx9⟩
    have HW9 := Lib.hid (show w9.ownsRow w7.drew.heap.size 5 1 v9 m.length (m.map bv) from by simpa using hown9)
    have HX9 := Lib.hid hx9
    have HE9 := Lib.hid (Ext.trans HE8.out hx9)
    have HZ9 := Lib.hid (kept_cell HZ8.out hx9)
    have hf9 : ∀ j, w9.frozen? ⟨w.heap.size, j, none⟩ = false := fun j => by
      rw [frozen_ext hx9 (lt_of_cell (HZ8.out 0 _ rfl))]
      exact HF8.out _
    have z0 := HZ9.out 0 _ rfl
    have z1 := HZ9.out 1 _ rfl
    have z2 := HZ9.out 2 _ rfl
    have g0 := hf9 0
    have g1 := hf9 1
    have g2 := hf9 2
    have HS := Lib.hid (three_stored HZ9.out (.int .u8 2) (.int .i64 N) (.string ⟨#[]⟩))
    clear hown9 hx9 hf9
    go_wp2_with fail
    refine ⟨Only.of_ext HX9.out, hK _ _ ?_⟩
    clear hK K
    refine wpSegs_some fun K hK => ?_
    refine wpQuiet_nil ?_
    go_wp2_with fail
    refine ⟨Only.trans (Only.trans (only_set _ 0 _ _) (only_set _ 1 _ _)) (only_set _ 2 _ _), hK _ _ ?_⟩
    clear hK K z0 z1 z2 g0 g1 g2
    refine wpSegs_none ?_
    repeat go_big_quiet_step (fail)
    refine wpQuiet_nil (wpSegs_nil ?_)
    go_wp2_with fail
    have k0 := HS.out 0 _ rfl
    have k1 := HS.out 1 _ rfl
    have k2 := HS.out 2 _ rfl
    refine bodyPost_ret (v := .tuple #[.agg #[.int .u8 2, .int .i64 N, .string ⟨#[]⟩], v9, .int .i64 0]) (by simp [results, Tryz.results167, go_sem, k0, k1, k2]) rfl ⟨.inl ⟨_, _, _, HTV.out, rfl, ?_⟩, ?_⟩
    · exact owns_base (owns_setO (owns_setO (owns_setO HW9.out (lt_of_cell (HZ8.out 0 _ rfl))) (lt_of_cell (HZ8.out 0 _ rfl))) (lt_of_cell (HZ8.out 0 _ rfl))) HE8.out.size
    · exact Below.setCell (Below.setCell (Below.setCell HE9.out (Nat.le_refl _) _) (Nat.le_refl _) _) (Nat.le_refl _) _
set_option maxRecDepth 100000 in
set_option maxHeartbeats 1000000 in
theorem take_3_bad (bb off L cap : Nat) (a1 : Option Addr) (cap1 : Nat) (t : List UInt8) (w : World) (S : List UInt8) (hc0 : w.cell? ⟨bb, off, none⟩ = some (.int .u8 3)) (hrt : Rd w (.slice a1 (L - 1) cap1) t) (hsl : ∀ W, (Instr.slice 36 (.slice (some ⟨bb, off, none⟩) L cap) (some (.int .i64 1)) none none).run Tryz.prog W = .ok (.slice a1 (L - 1) cap1) W) (hLd : L = t.length + 1) (hl : t.length < 1000000) (hI : ∀ B b W, Rdr B W b t false → Calls Tryz.prog 175 #[.pointer (some ⟨b, 0, none⟩)] W fun e w' => e = .returned (.string ⟨S.toArray⟩) ∧ Rdr B w' b [] true ∧ Only b W w') (htv : takeV (3 :: t) = none) :
    Calls Tryz.prog 167 #[.slice (some ⟨bb, off, none⟩) L cap] w (TookO w (3 :: t)) := by
  have HTV := Lib.hid htv
  have HLD := Lib.hid hLd
  have HL := Lib.hid hl
  have HRT := Lib.hid hrt
  have HI := Lib.hid hI
  have hlne : ((L : Int) == 0) = false := by rw [beq_eq_false_iff_ne]; omega
  have hL1 : 1 ≤ L := by omega
  have hLM : L ≤ 1000000 := by omega
  have hc1 : (w.alloc (.cells #[.int .u8 0, .int .i64 0, .string ⟨#[]⟩] 56)).cell? ⟨bb, off, none⟩ = some (.int .u8 3) := ((ext_one w _).cell (lt_of_cell hc0)).trans hc0
  clear htv hLd hl hrt hc0 hI
  have HE1 := Lib.hid (ext_two w (.cells #[.int .u8 0, .int .i64 0, .string ⟨#[]⟩] 56) (.cells #[.int .u8 3, .int .i64 0, .string ⟨#[]⟩] 56))
  have HZ0 := Lib.hid (cells_two0 w [.int .u8 0, .int .i64 0, .string ⟨#[]⟩] [.int .u8 3, .int .i64 0, .string ⟨#[]⟩] 56)
  have HZ1 := Lib.hid (cells_two1 w [.int .u8 0, .int .i64 0, .string ⟨#[]⟩] [.int .u8 3, .int .i64 0, .string ⟨#[]⟩] 56)
  have HSZ := Lib.hid (show ((w.alloc (.cells #[.int .u8 0, .int .i64 0, .string ⟨#[]⟩] 56)).alloc (.cells #[.int .u8 3, .int .i64 0, .string ⟨#[]⟩] 56)).heap.size = w.heap.size + 2 from by simp)
  have HF0 := Lib.hid (new_free0 w (.cells #[.int .u8 0, .int .i64 0, .string ⟨#[]⟩] 56) (.cells #[.int .u8 3, .int .i64 0, .string ⟨#[]⟩] 56) [.int .u8 0, .int .i64 0, .string ⟨#[]⟩] _ rfl)
  have HF1 := Lib.hid (new_free1 w (.cells #[.int .u8 0, .int .i64 0, .string ⟨#[]⟩] 56) (.cells #[.int .u8 3, .int .i64 0, .string ⟨#[]⟩] 56) [.int .u8 3, .int .i64 0, .string ⟨#[]⟩] _ rfl)
  go_enter Tryz.func167, Tryz.ntmps167
  go_wp2_with fail
  generalize (w.alloc (.cells #[.int .u8 0, .int .i64 0, .string ⟨#[]⟩] 56)).alloc (.cells #[.int .u8 3, .int .i64 0, .string ⟨#[]⟩] 56) = W2 at HE1 HZ0 HZ1 HSZ HF0 HF1 ⊢
  refine (New_any _ t W2 (HRT.out.mono HE1.out) (by have := HL.out; omega)).mono ?_
  rintro e w3 ⟨b, rfl, hb, hrd, hx3⟩
  have HB := Lib.hid (show w.heap.size + 2 ≤ b by have := HSZ.out; omega)
  have HRD := Lib.hid hrd
  have HX3 := Lib.hid hx3
  have HC3 := Lib.hid (kept_cell HZ1.out hx3)
  have c0 := HC3.out 0 _ rfl
  clear hb hrd hx3
  go_wp2_with fail
  refine (HI.out _ b w3 HRD.out).mono ?_
  rintro e w4 ⟨rfl, hrd4, ho4⟩
  have HX4 := Lib.hid (show Below (w.heap.size + 2) w3 w4 from Only.below ho4 HB.out (by have := HX3.out.size; have := HSZ.out; omega))
  have HC4 := Lib.hid (show ∀ j u, ([.int .u8 3, .int .i64 0, .string ⟨#[]⟩] : List Value)[j]? = some u → w4.cell? ⟨w.heap.size + 1, j, none⟩ = some u from only_kept HC3.out ho4 (by have := HB.out; omega))
  have HZ4 := Lib.hid (show ∀ j u, ([.int .u8 0, .int .i64 0, .string ⟨#[]⟩] : List Value)[j]? = some u → w4.cell? ⟨w.heap.size, j, none⟩ = some u from only_kept (kept_cell HZ0.out HX3.out) ho4 (by have := HB.out; omega))
  have c2 := HC4.out 2 _ rfl
  have f2 : w4.frozen? ⟨w.heap.size + 1, 2, none⟩ = false := by
    rw [only_frozen ho4 (by have := HX3.out.size; have := HSZ.out; omega) (by have := HB.out; omega), frozen_ext HX3.out (by have := HSZ.out; omega)]
    exact HF1.out _
  have HRD5 := Lib.hid (Rdr.set (i := 2) (u := .string ⟨S.toArray⟩) hrd4 (g := w.heap.size + 1) (by have := HSZ.out; omega) (by have := HB.out; omega))
  have HE5 := Lib.hid (show Ext w (w4.setCell ⟨w.heap.size + 1, 2, none⟩ (.string ⟨S.toArray⟩)) from Below.setCell (Below.trans (Ext.trans HE1.out HX3.out) (Below.mono HX4.out (by omega))) (Nat.le_succ _) _)
  have HC5 := Lib.hid (set_2 HC4.out (.string ⟨S.toArray⟩))
  have HZ5 := Lib.hid (set_off (i := 2) (u := .string ⟨S.toArray⟩) HZ4.out (g := w.heap.size + 1) (by omega))
  have HF5 := Lib.hid (show ∀ j, (w4.setCell ⟨w.heap.size + 1, 2, none⟩ (.string ⟨S.toArray⟩)).frozen? ⟨w.heap.size, j, none⟩ = false from fun j => by
    have h : w4.frozen? ⟨w.heap.size, j, none⟩ = false := by
      rw [only_frozen ho4 (by have := HX3.out.size; have := HSZ.out; omega) (by have := HB.out; omega), frozen_ext HX3.out (by have := HSZ.out; omega)]
      exact HF0.out _
    simpa [go_sem] using h)
  clear hrd4 ho4
  go_wp2_with fail
  clear c0 c2 f2
  generalize w4.setCell ⟨w.heap.size + 1, 2, none⟩ (.string ⟨S.toArray⟩) = W5 at HE5 HC5 HZ5 HF5 HRD5 ⊢
  refine (Bad_any W2.heap.size b [] true _ HRD5.out).mono ?_
  rintro e w6 ⟨rfl, rfl⟩
  have c0 := HC5.out 0 _ rfl
  have c1 := HC5.out 1 _ rfl
  have c2 := HC5.out 2 _ rfl
  have z0 := HZ5.out 0 _ rfl
  have z1 := HZ5.out 1 _ rfl
  have z2 := HZ5.out 2 _ rfl
  have g0 := HF5.out 0
  have g1 := HF5.out 1
  have g2 := HF5.out 2
  have HS := Lib.hid (three_stored HZ5.out (.int .u8 0) (.int .i64 0) (.string ⟨#[]⟩))
  go_wp2_with fail
  have k0 := HS.out 0 _ rfl
  have k1 := HS.out 1 _ rfl
  have k2 := HS.out 2 _ rfl
  clear c0 c1 c2 z0 z1 z2 g0 g1 g2
  refine bodyPost_ret (v := .tuple #[.agg #[.int .u8 0, .int .i64 0, .string ⟨#[]⟩], .slice none 0 0, .int .i64 6]) (by simp [results, Tryz.results167, go_sem, k0, k1, k2]) rfl ⟨.inr ⟨HTV.out, rfl⟩, ?_⟩
  exact Below.setCell (Below.setCell (Below.setCell HE5.out (Nat.le_refl _) _) (Nat.le_refl _) _) (Nat.le_refl _) _
set_option maxRecDepth 100000 in
set_option maxHeartbeats 1000000 in
theorem take_3_right (bb off L cap : Nat) (a1 : Option Addr) (cap1 : Nat) (t : List UInt8) (w : World) (m : List UInt8) (S : List UInt8) (hc0 : w.cell? ⟨bb, off, none⟩ = some (.int .u8 3)) (hrt : Rd w (.slice a1 (L - 1) cap1) t) (hsl : ∀ W, (Instr.slice 36 (.slice (some ⟨bb, off, none⟩) L cap) (some (.int .i64 1)) none none).run Tryz.prog W = .ok (.slice a1 (L - 1) cap1) W) (hLd : L = t.length + 1) (hl : t.length < 1000000) (hI : ∀ B b W, Rdr B W b t false → Calls Tryz.prog 175 #[.pointer (some ⟨b, 0, none⟩)] W fun e w' => e = .returned (.string ⟨S.toArray⟩) ∧ Rdr B w' b m false ∧ Only b W w') (hR : ∀ W, Calls Tryz.prog 105 #[.agg #[.int .u8 3, .int .i64 0, .string ⟨S.toArray⟩]] W fun e w' => e = .returned (.bool true) ∧ Ext W w') (hrm1 : cap = L - m.length → Rd w (.slice (some ⟨bb, off, none⟩) (L - (L - m.length)) 0) m) (hrm2 : ¬ cap = L - m.length → Rd w (.slice (some ⟨bb, off + (L - m.length), none⟩) (L - (L - m.length)) (cap - (L - m.length))) m) (hml : m.length ≤ L) (htv : takeV (3 :: t) = some (⟨3, 0, S⟩, m)) :
    Calls Tryz.prog 167 #[.slice (some ⟨bb, off, none⟩) L cap] w (TookO w (3 :: t)) := by
  have HTV := Lib.hid htv
  have HLD := Lib.hid hLd
  have HL := Lib.hid hl
  have HRT := Lib.hid hrt
  have HI := Lib.hid hI
  have HR := Lib.hid hR
  have HRM1 := Lib.hid hrm1
  have HRM2 := Lib.hid hrm2
  have HML := Lib.hid hml
  clear hrm1 hrm2 hml
  have hlne : ((L : Int) == 0) = false := by rw [beq_eq_false_iff_ne]; omega
  have hL1 : 1 ≤ L := by omega
  have hLM : L ≤ 1000000 := by omega
  have hc1 : (w.alloc (.cells #[.int .u8 0, .int .i64 0, .string ⟨#[]⟩] 56)).cell? ⟨bb, off, none⟩ = some (.int .u8 3) := ((ext_one w _).cell (lt_of_cell hc0)).trans hc0
  clear htv hLd hl hrt hc0 hI hR
  have HE1 := Lib.hid (ext_two w (.cells #[.int .u8 0, .int .i64 0, .string ⟨#[]⟩] 56) (.cells #[.int .u8 3, .int .i64 0, .string ⟨#[]⟩] 56))
  have HZ0 := Lib.hid (cells_two0 w [.int .u8 0, .int .i64 0, .string ⟨#[]⟩] [.int .u8 3, .int .i64 0, .string ⟨#[]⟩] 56)
  have HZ1 := Lib.hid (cells_two1 w [.int .u8 0, .int .i64 0, .string ⟨#[]⟩] [.int .u8 3, .int .i64 0, .string ⟨#[]⟩] 56)
  have HSZ := Lib.hid (show ((w.alloc (.cells #[.int .u8 0, .int .i64 0, .string ⟨#[]⟩] 56)).alloc (.cells #[.int .u8 3, .int .i64 0, .string ⟨#[]⟩] 56)).heap.size = w.heap.size + 2 from by simp)
  have HF0 := Lib.hid (new_free0 w (.cells #[.int .u8 0, .int .i64 0, .string ⟨#[]⟩] 56) (.cells #[.int .u8 3, .int .i64 0, .string ⟨#[]⟩] 56) [.int .u8 0, .int .i64 0, .string ⟨#[]⟩] _ rfl)
  have HF1 := Lib.hid (new_free1 w (.cells #[.int .u8 0, .int .i64 0, .string ⟨#[]⟩] 56) (.cells #[.int .u8 3, .int .i64 0, .string ⟨#[]⟩] 56) [.int .u8 3, .int .i64 0, .string ⟨#[]⟩] _ rfl)
  go_enter Tryz.func167, Tryz.ntmps167
  go_wp2_with fail
  generalize (w.alloc (.cells #[.int .u8 0, .int .i64 0, .string ⟨#[]⟩] 56)).alloc (.cells #[.int .u8 3, .int .i64 0, .string ⟨#[]⟩] 56) = W2 at HE1 HZ0 HZ1 HSZ HF0 HF1 ⊢
  refine (New_any _ t W2 (HRT.out.mono HE1.out) (by have := HL.out; omega)).mono ?_
  rintro e w3 ⟨b, rfl, hb, hrd, hx3⟩
  have HB := Lib.hid (show w.heap.size + 2 ≤ b by have := HSZ.out; omega)
  have HRD := Lib.hid hrd
  have HX3 := Lib.hid hx3
  have HC3 := Lib.hid (kept_cell HZ1.out hx3)
  have c0 := HC3.out 0 _ rfl
  clear hb hrd hx3
  go_wp2_with fail
  refine (HI.out _ b w3 HRD.out).mono ?_
  rintro e w4 ⟨rfl, hrd4, ho4⟩
  have HX4 := Lib.hid (show Below (w.heap.size + 2) w3 w4 from Only.below ho4 HB.out (by have := HX3.out.size; have := HSZ.out; omega))
  have HC4 := Lib.hid (show ∀ j u, ([.int .u8 3, .int .i64 0, .string ⟨#[]⟩] : List Value)[j]? = some u → w4.cell? ⟨w.heap.size + 1, j, none⟩ = some u from only_kept HC3.out ho4 (by have := HB.out; omega))
  have HZ4 := Lib.hid (show ∀ j u, ([.int .u8 0, .int .i64 0, .string ⟨#[]⟩] : List Value)[j]? = some u → w4.cell? ⟨w.heap.size, j, none⟩ = some u from only_kept (kept_cell HZ0.out HX3.out) ho4 (by have := HB.out; omega))
  have c2 := HC4.out 2 _ rfl
  have f2 : w4.frozen? ⟨w.heap.size + 1, 2, none⟩ = false := by
    rw [only_frozen ho4 (by have := HX3.out.size; have := HSZ.out; omega) (by have := HB.out; omega), frozen_ext HX3.out (by have := HSZ.out; omega)]
    exact HF1.out _
  have HRD5 := Lib.hid (Rdr.set (i := 2) (u := .string ⟨S.toArray⟩) hrd4 (g := w.heap.size + 1) (by have := HSZ.out; omega) (by have := HB.out; omega))
  have HE5 := Lib.hid (show Ext w (w4.setCell ⟨w.heap.size + 1, 2, none⟩ (.string ⟨S.toArray⟩)) from Below.setCell (Below.trans (Ext.trans HE1.out HX3.out) (Below.mono HX4.out (by omega))) (Nat.le_succ _) _)
  have HC5 := Lib.hid (set_2 HC4.out (.string ⟨S.toArray⟩))
  have HZ5 := Lib.hid (set_off (i := 2) (u := .string ⟨S.toArray⟩) HZ4.out (g := w.heap.size + 1) (by omega))
  have HF5 := Lib.hid (show ∀ j, (w4.setCell ⟨w.heap.size + 1, 2, none⟩ (.string ⟨S.toArray⟩)).frozen? ⟨w.heap.size, j, none⟩ = false from fun j => by
    have h : w4.frozen? ⟨w.heap.size, j, none⟩ = false := by
      rw [only_frozen ho4 (by have := HX3.out.size; have := HSZ.out; omega) (by have := HB.out; omega), frozen_ext HX3.out (by have := HSZ.out; omega)]
      exact HF0.out _
    simpa [go_sem] using h)
  clear hrd4 ho4
  go_wp2_with fail
  clear c0 c2 f2
  generalize w4.setCell ⟨w.heap.size + 1, 2, none⟩ (.string ⟨S.toArray⟩) = W5 at HE5 HC5 HZ5 HF5 HRD5 ⊢
  refine (Bad_any W2.heap.size b m false _ HRD5.out).mono ?_
  rintro e w6 ⟨rfl, rfl⟩
  have c0 := HC5.out 0 _ rfl
  have c1 := HC5.out 1 _ rfl
  have c2 := HC5.out 2 _ rfl
  go_wp2_with fail
  refine (HR.out _).mono ?_
  rintro e w7 ⟨rfl, hx7⟩
  have HE7 := Lib.hid (Ext.trans HE5.out hx7)
  have HC7 := Lib.hid (kept_cell HC5.out hx7)
  have HZ7 := Lib.hid (kept_cell HZ5.out hx7)
  have HRD7 := Lib.hid (Rdr.mono HRD5.out hx7)
  have HF7 := Lib.hid (show ∀ j, w7.frozen? ⟨w.heap.size, j, none⟩ = false from fun j => by
    rw [frozen_ext hx7 (lt_of_cell (HZ5.out 0 _ rfl))]
    exact HF5.out _)
  clear hx7 c0 c1 c2
  have HO7 := Lib.hid (only_drew w.heap.size w7)
  have c0 := only_cells HC7.out HO7.out (by omega) 0 _ rfl
  have c1 := only_cells HC7.out HO7.out (by omega) 1 _ rfl
  have c2 := only_cells HC7.out HO7.out (by omega) 2 _ rfl
  go_wp2_with fail
  refine wp_region_segs (Only w.heap.size) (Only.keeps _) [([0, 1, 2, 3, 4], some 5), ([6, 7], some 8), ([], some 9), ([10, 11], none)] (by kernel_rfl) (by kernel_rfl) (fun c a a' w e h => (by exact ⟨e ▸ h.1, h.2⟩)) ?_
  simp only [pickSegs, pickOps, List.map_cons, List.map_nil, Option.map_some, Option.map_none, Option.getD_some, List.getElem?_toArray, List.getElem?_cons_zero, List.getElem?_cons_succ]
  refine wpSegs_some fun K hK => ?_
  repeat go_big_quiet_step (fail)
  refine wpQuiet_nil ?_
  clear c0 c1 c2
  go_wp2_with fail
  have HX7 := Lib.hid (Ext.drew w7)
  have HE8 := Lib.hid (Ext.trans HE7.out HX7.out)
  have HZ8 := Lib.hid (kept_cell HZ7.out HX7.out)
  have HF8 := Lib.hid (show ∀ j, w7.drew.frozen? ⟨w.heap.size, j, none⟩ = false from fun j => by
    rw [frozen_ext HX7.out (lt_of_cell (HZ7.out 0 _ rfl))]
    exact HF7.out _)
  refine (Left_any W2.heap.size b m _ (Rdr.mono HRD7.out HX7.out)).mono ?_
  clear HO7
  rintro e w8 ⟨rfl, rfl⟩
  go_wp2_with fail
  refine ⟨Only.refl _ _, hK _ _ ?_⟩
  clear hK K
  refine wpSegs_some fun K hK => ?_
  have hml := HML.out
  rcases Classical.em (cap = L - m.length) with rfl | hcq
  have HRQ := Lib.hid (HRM1.out rfl)
  rotate_left
  have HRQ := Lib.hid (HRM2.out hcq)
  all_goals
    clear HRM1 HRM2
    repeat go_big_quiet_step (fail)
    refine wpQuiet_nil ?_
    go_wp2_with fail
    refine (bclone_any _ m _ (HRQ.out.mono HE8.out) (by have := HML.out; have := HLD.out; have := HL.out; omega)).mono ?_
    rintro e w9 ⟨v9, rfl, hown9, hx9⟩
    have HW9 := Lib.hid (show w9.ownsRow w7.drew.heap.size 5 1 v9 m.length (m.map bv) from by simpa using hown9)
    have HX9 := Lib.hid hx9
    have HE9 := Lib.hid (Ext.trans HE8.out hx9)
    have HZ9 := Lib.hid (kept_cell HZ8.out hx9)
    have hf9 : ∀ j, w9.frozen? ⟨w.heap.size, j, none⟩ = false := fun j => by
      rw [frozen_ext hx9 (lt_of_cell (HZ8.out 0 _ rfl))]
      exact HF8.out _
    have z0 := HZ9.out 0 _ rfl
    have z1 := HZ9.out 1 _ rfl
    have z2 := HZ9.out 2 _ rfl
    have g0 := hf9 0
    have g1 := hf9 1
    have g2 := hf9 2
    have HS := Lib.hid (three_stored HZ9.out (.int .u8 3) (.int .i64 0) (.string ⟨S.toArray⟩))
    clear hown9 hx9 hf9
    go_wp2_with fail
    refine ⟨Only.of_ext HX9.out, hK _ _ ?_⟩
    clear hK K
    refine wpSegs_some fun K hK => ?_
    refine wpQuiet_nil ?_
    go_wp2_with fail
    refine ⟨Only.trans (Only.trans (only_set _ 0 _ _) (only_set _ 1 _ _)) (only_set _ 2 _ _), hK _ _ ?_⟩
    clear hK K z0 z1 z2 g0 g1 g2
    refine wpSegs_none ?_
    repeat go_big_quiet_step (fail)
    refine wpQuiet_nil (wpSegs_nil ?_)
    go_wp2_with fail
    have k0 := HS.out 0 _ rfl
    have k1 := HS.out 1 _ rfl
    have k2 := HS.out 2 _ rfl
    refine bodyPost_ret (v := .tuple #[.agg #[.int .u8 3, .int .i64 0, .string ⟨S.toArray⟩], v9, .int .i64 0]) (by simp [results, Tryz.results167, go_sem, k0, k1, k2]) rfl ⟨.inl ⟨_, _, _, HTV.out, rfl, ?_⟩, ?_⟩
    · exact owns_base (owns_setO (owns_setO (owns_setO HW9.out (lt_of_cell (HZ8.out 0 _ rfl))) (lt_of_cell (HZ8.out 0 _ rfl))) (lt_of_cell (HZ8.out 0 _ rfl))) HE8.out.size
    · exact Below.setCell (Below.setCell (Below.setCell HE9.out (Nat.le_refl _) _) (Nat.le_refl _) _) (Nat.le_refl _) _
set_option maxRecDepth 100000 in
set_option maxHeartbeats 1000000 in
theorem take_o (bb off L cap : Nat) (a1 : Option Addr) (cap1 : Nat) (t : List UInt8) (w : World) (c : UInt8) (K : Int) (hc0 : w.cell? ⟨bb, off, none⟩ = some (.int .u8 K)) (hrt : Rd w (.slice a1 (L - 1) cap1) t) (hsl : ∀ W, (Instr.slice 36 (.slice (some ⟨bb, off, none⟩) L cap) (some (.int .i64 1)) none none).run Tryz.prog W = .ok (.slice a1 (L - 1) cap1) W) (hLd : L = t.length + 1) (hl : t.length < 1000000) (q1 : (K == 1) = false) (q2 : (K == 2) = false) (q3 : (K == 3) = false) (hR : ∀ W, Calls Tryz.prog 105 #[.agg #[.int .u8 K, .int .i64 0, .string ⟨#[]⟩]] W fun e w' => e = .returned (.bool false) ∧ Ext W w') (htv : takeV (c :: t) = none) :
    Calls Tryz.prog 167 #[.slice (some ⟨bb, off, none⟩) L cap] w (TookO w (c :: t)) := by
  have HTV := Lib.hid htv
  have HLD := Lib.hid hLd
  have HL := Lib.hid hl
  have HRT := Lib.hid hrt
  have HR := Lib.hid hR
  have hlne : ((L : Int) == 0) = false := by rw [beq_eq_false_iff_ne]; omega
  have hL1 : 1 ≤ L := by omega
  have hLM : L ≤ 1000000 := by omega
  have hc1 : (w.alloc (.cells #[.int .u8 0, .int .i64 0, .string ⟨#[]⟩] 56)).cell? ⟨bb, off, none⟩ = some (.int .u8 K) := ((ext_one w _).cell (lt_of_cell hc0)).trans hc0
  clear htv hLd hl hrt hc0 hR
  have HE1 := Lib.hid (ext_two w (.cells #[.int .u8 0, .int .i64 0, .string ⟨#[]⟩] 56) (.cells #[.int .u8 K, .int .i64 0, .string ⟨#[]⟩] 56))
  have HZ0 := Lib.hid (cells_two0 w [.int .u8 0, .int .i64 0, .string ⟨#[]⟩] [.int .u8 K, .int .i64 0, .string ⟨#[]⟩] 56)
  have HZ1 := Lib.hid (cells_two1 w [.int .u8 0, .int .i64 0, .string ⟨#[]⟩] [.int .u8 K, .int .i64 0, .string ⟨#[]⟩] 56)
  have HSZ := Lib.hid (show ((w.alloc (.cells #[.int .u8 0, .int .i64 0, .string ⟨#[]⟩] 56)).alloc (.cells #[.int .u8 K, .int .i64 0, .string ⟨#[]⟩] 56)).heap.size = w.heap.size + 2 from by simp)
  have HF0 := Lib.hid (new_free0 w (.cells #[.int .u8 0, .int .i64 0, .string ⟨#[]⟩] 56) (.cells #[.int .u8 K, .int .i64 0, .string ⟨#[]⟩] 56) [.int .u8 0, .int .i64 0, .string ⟨#[]⟩] _ rfl)
  have HF1 := Lib.hid (new_free1 w (.cells #[.int .u8 0, .int .i64 0, .string ⟨#[]⟩] 56) (.cells #[.int .u8 K, .int .i64 0, .string ⟨#[]⟩] 56) [.int .u8 K, .int .i64 0, .string ⟨#[]⟩] _ rfl)
  go_enter Tryz.func167, Tryz.ntmps167
  go_wp2_with fail
  generalize (w.alloc (.cells #[.int .u8 0, .int .i64 0, .string ⟨#[]⟩] 56)).alloc (.cells #[.int .u8 K, .int .i64 0, .string ⟨#[]⟩] 56) = W2 at HE1 HZ0 HZ1 HSZ HF0 HF1 ⊢
  refine (New_any _ t W2 (HRT.out.mono HE1.out) (by have := HL.out; omega)).mono ?_
  rintro e w3 ⟨b, rfl, hb, hrd, hx3⟩
  have HB := Lib.hid (show w.heap.size + 2 ≤ b by have := HSZ.out; omega)
  have HRD := Lib.hid hrd
  have HX3 := Lib.hid hx3
  have HC3 := Lib.hid (kept_cell HZ1.out hx3)
  have c0 := HC3.out 0 _ rfl
  clear hb hrd hx3
  go_wp2_with fail
  have HRD5 := HRD
  have HE5 := Lib.hid (Ext.trans HE1.out HX3.out)
  have HC5 := HC3
  have HZ5 := Lib.hid (kept_cell HZ0.out HX3.out)
  have HF5 := Lib.hid (show ∀ j, w3.frozen? ⟨w.heap.size, j, none⟩ = false from fun j => by
    rw [frozen_ext HX3.out (by have := HSZ.out; omega)]
    exact HF0.out _)
  clear c0
  refine (Bad_any W2.heap.size b t false _ HRD5.out).mono ?_
  rintro e w6 ⟨rfl, rfl⟩
  have c0 := HC5.out 0 _ rfl
  have c1 := HC5.out 1 _ rfl
  have c2 := HC5.out 2 _ rfl
  go_wp2_with fail
  refine (HR.out _).mono ?_
  rintro e w7 ⟨rfl, hx7⟩
  have HE7 := Lib.hid (Ext.trans HE5.out hx7)
  have HC7 := Lib.hid (kept_cell HC5.out hx7)
  have HZ7 := Lib.hid (kept_cell HZ5.out hx7)
  have HRD7 := Lib.hid (Rdr.mono HRD5.out hx7)
  have HF7 := Lib.hid (show ∀ j, w7.frozen? ⟨w.heap.size, j, none⟩ = false from fun j => by
    rw [frozen_ext hx7 (lt_of_cell (HZ5.out 0 _ rfl))]
    exact HF5.out _)
  clear hx7 c0 c1 c2
  have z0 := HZ7.out 0 _ rfl
  have z1 := HZ7.out 1 _ rfl
  have z2 := HZ7.out 2 _ rfl
  have g0 := HF7.out 0
  have g1 := HF7.out 1
  have g2 := HF7.out 2
  have HS := Lib.hid (three_stored HZ7.out (.int .u8 0) (.int .i64 0) (.string ⟨#[]⟩))
  go_wp2_with fail
  have k0 := HS.out 0 _ rfl
  have k1 := HS.out 1 _ rfl
  have k2 := HS.out 2 _ rfl
  clear z0 z1 z2 g0 g1 g2
  refine bodyPost_ret (v := .tuple #[.agg #[.int .u8 0, .int .i64 0, .string ⟨#[]⟩], .slice none 0 0, .int .i64 6]) (by simp [results, Tryz.results167, go_sem, k0, k1, k2]) rfl ⟨.inr ⟨HTV.out, rfl⟩, ?_⟩
  exact Below.setCell (Below.setCell (Below.setCell HE7.out (Nat.le_refl _) _) (Nat.le_refl _) _) (Nat.le_refl _) _
end Go.Proofs.YtaoegcakefodaaaGreat

