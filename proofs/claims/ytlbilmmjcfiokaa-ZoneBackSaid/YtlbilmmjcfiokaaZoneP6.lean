/-
  The program's contracts of zones: read, Take.
-/
import Derived.Test.YtlbilmmjcfiokaaZoneP4
import Derived.Test.YtlbilmmjcfiokaaZoneRef5
import Derived.Test.YtlbilmmjcfiokaaCellSaysB
import Derived.Test.YtlbilmmjcfiokaaReadTk
namespace Go.Proofs.Ytlbilmmjcfiokaa
open Go.RowKit Go.BigFrame

/-- What reading leaves: a zone, or an error where nothing was put so. -/
def ReadZ (b : List UInt8) (w : World) (e : Ending) (w' : World) : Prop :=
  (∃ (z : Zo) (E : Int), e = .returned (.tuple #[z.val, .int .i64 E]) ∧ ((E = 0 ∧ z.fits ∧ z.small 1024 ∧ ∀ k, takeZ k b = if rightZ k z then (z, 0) else (Zo.zero, 6)) ∨ (E = 6 ∧ ∀ k, takeZ k b = (Zo.zero, 6)))) ∧ Ext w w'

/-- Where read stands behind both values. -/
structure PZ (w : World) (z : Zo) (g G N : Nat) (l : List UInt8) (bad : Bool) (W : World) : Prop where
  r : Blk W w.heap.size Zo.zero.cells 26
  d : RdO (fun k => N ≤ k ∧ k < G) W G l bad
  z : Blk W g z.cells 26
  wG : w.heap.size < G
  Gg : G < g
  x : Ext w W
theorem PZ.ext {w : World} {z : Zo} {g G N : Nat} {l : List UInt8} {bad : Bool} {W W' : World} (h : PZ w z g G N l bad W) (hx : Ext W W') : PZ w z g G N l bad W' := ⟨h.r.ext hx, rdrP_ext h.d hx, h.z.ext hx, h.wG, h.Gg, Ext.trans h.x hx⟩
theorem PZ.only {w : World} {z : Zo} {g G N : Nat} {l l' : List UInt8} {bad bad' : Bool} {W W' : World} (h : PZ w z g G N l bad W) (hd : RdO (fun k => N ≤ k ∧ k < G) W' G l' bad') (ho : Only G W W') : PZ w z g G N l' bad' W' :=
  ⟨h.r.only ho (by have := h.wG; omega), hd, h.z.only ho (by have := h.Gg; omega), h.wG, h.Gg, ⟨ho.os.trans h.x.os, ho.tape.trans h.x.tape, ho.output.trans h.x.output, Nat.le_trans h.x.size ho.size, fun k hk => (ho.block k (Nat.lt_of_lt_of_le hk h.x.size) (fun e => by have := h.wG; have : k = G := (by simpa using e); omega)).trans (h.x.block k hk)⟩⟩
theorem PZ.set6 {w : World} {z : Zo} {g G N : Nat} {l : List UInt8} {bad : Bool} {W : World} (h : PZ w z g G N l bad W) (y : Int) : PZ w ⟨z.a, z.b, y, z.m⟩ g G N l bad (W.setCell ⟨g, 6, none⟩ (.int .i64 y)) := by
  have h1 := h.wG
  have h2 := h.Gg
  exact ⟨h.r.beside (by omega) _ _, rdrP_set h.d (fun _ k hk => by omega) (by omega) _ _, h.z.set 6 _, h1, h2, Below.setCell h.x (by show w.heap.size ≤ g; omega) _⟩
theorem PZ.set7 {w : World} {z : Zo} {g G N : Nat} {l : List UInt8} {bad : Bool} {W : World} (h : PZ w z g G N l bad W) (y : Int) : PZ w ⟨z.a, z.b, z.n, y⟩ g G N l bad (W.setCell ⟨g, 7, none⟩ (.int .i64 y)) := by
  have h1 := h.wG
  have h2 := h.Gg
  exact ⟨h.r.beside (by omega) _ _, rdrP_set h.d (fun _ k hk => by omega) (by omega) _ _, h.z.set 7 _, h1, h2, Below.setCell h.x (by show w.heap.size ≤ g; omega) _⟩

theorem only_put8_drew (W : World) (b : Nat) (z : Zo) : Only b W.drew (put8 W b z).drew := by
  have h := only_put8 W b z
  generalize put8 W b z = W' at h ⊢
  exact ⟨h.os, h.tape, h.output, h.size, h.block⟩

set_option maxRecDepth 100000 in
set_option maxHeartbeats 4000000 in
theorem pReadZ_any (u : Value) (b : List UInt8) (w : World) (hr : Rd w u b) (hl : b.length ≤ 1000000) :
    Calls Try.prog 36 #[u] w (ReadZ b w) := by
  obtain ⟨ua, uc, rfl, -, -⟩ := hr.shape
  have HU := Lib.hid hr
  have HB0 := Lib.hid (Blk.new w Zo.zero.cells 26)
  have HX0 := Lib.hid (ext_new w (.cells Zo.zero.cells.toArray 26))
  have HLB := Lib.hid hl
  obtain ⟨L, hL⟩ : ∃ L, b.length = L := ⟨_, rfl⟩
  have HL := Lib.hid hL
  rw [hL]
  clear hr hl hL
  go_enter Try.func36, Try.ntmps36
  go_wp2_with fail
  refine (Take_any _ b _ (by have := HU.out.mono HX0.out; rw [HL.out] at this; exact this) HLB.out).mono ?_
  rintro e w1 ⟨⟨v, m, r, htk, rfl, hown⟩ | ⟨hno, rfl⟩, hx⟩
  · obtain ⟨hv1, hv2, -, hvm⟩ := takeV_sound htk
    have HTK := Lib.hid htk
    have HML := Lib.hid (show m.length ≤ 1000000 by have := congrArg List.length hvm; rw [List.length_append] at this; have := HLB.out; omega)
    have HB1 := Lib.hid (HB0.out.ext hx)
    have HX1 := Lib.hid (Ext.trans HX0.out hx)
    obtain ⟨ra, rc, rfl, hm1, hm2⟩ := hown.rd.shape
    have HRD := Lib.hid hown.rd
    obtain ⟨M, hM⟩ : ∃ M, m.length = M := ⟨_, rfl⟩
    have HM := Lib.hid hM
    rw [hM]
    obtain ⟨ak, an, as'⟩ := v
    clear hx htk hv1 hv2 hvm hown hM hm1 hm2
    unfold V.val
    simp only
    go_wp2_with fail
    have HN1 := Lib.hid (ext_new w1 (.cells #[.int .u8 ak, .int .i64 an, .string ⟨as'.toArray⟩] 24))
    have HV1 := Lib.hid (Blk.new w1 [.int .u8 ak, .int .i64 an, .string ⟨as'.toArray⟩] 24)
    refine (Take_any _ m _ (by have := HRD.out.mono HN1.out; rw [HM.out] at this; exact this) HML.out).mono ?_
    rintro e w2 ⟨⟨v2, m2, r2, htk2, rfl, hown2⟩ | ⟨hno, rfl⟩, hx⟩
    · obtain ⟨hv1, hv2, -, hvm⟩ := takeV_sound htk2
      have HTK2 := Lib.hid htk2
      have HML2 := Lib.hid (show m2.length ≤ 1000000 by have := congrArg List.length hvm; rw [List.length_append] at this; have := HML.out; omega)
      have HB2 := Lib.hid ((HB1.out.ext HN1.out).ext hx)
      have HA2 := Lib.hid (HV1.out.ext hx)
      have HX2 := Lib.hid (Ext.trans (Ext.trans HX1.out HN1.out) hx)
      obtain ⟨qa, qc, rfl, hm1, hm2⟩ := hown2.rd.shape
      have HRD2 := Lib.hid hown2.rd
      obtain ⟨M2, hM2⟩ : ∃ M, m2.length = M := ⟨_, rfl⟩
      have HM2 := Lib.hid hM2
      rw [hM2]
      obtain ⟨bk, bn, bs⟩ := v2
      clear hx htk2 hv1 hv2 hvm hown2 hM2 hm1 hm2
      unfold V.val
      simp only
      go_wp2_with fail
      have HN2 := Lib.hid (ext_new w2 (.cells #[.int .u8 bk, .int .i64 bn, .string ⟨bs.toArray⟩] 24))
      have HV2 := Lib.hid (Blk.new w2 [.int .u8 bk, .int .i64 bn, .string ⟨bs.toArray⟩] 24)
      refine (New_anyP _ m2 _ (by have := HRD2.out.mono HN2.out; rw [HM2.out] at this; exact this) (by have := HML2.out; omega)).mono ?_
      rintro e w3 ⟨G, rfl, hG0, hG1, hd, hx⟩
      have HA3 := Lib.hid ((HA2.out.ext HN2.out).ext hx)
      have HV3 := Lib.hid (HV2.out.ext hx)
      have HB3 := Lib.hid ((HB2.out.ext HN2.out).ext hx)
      have HX3 := Lib.hid (Ext.trans (Ext.trans HX2.out HN2.out) hx)
      have HD3 := Lib.hid hd
      have HG := Lib.hid (show w.heap.size < G ∧ G < w3.heap.size from ⟨by have h1 := HB2.out.lt; have h2 := HN2.out.size; omega, hG1⟩)
      have HN3 := Lib.hid (show PZ w ⟨⟨ak, an, as'⟩, ⟨bk, bn, bs⟩, 0, 0⟩ w3.heap.size G (w2.alloc (.cells #[.int .u8 bk, .int .i64 bn, .string ⟨bs.toArray⟩] 24)).heap.size m2 false (w3.alloc (.cells (Zo.cells ⟨⟨ak, an, as'⟩, ⟨bk, bn, bs⟩, 0, 0⟩).toArray 26)) from
        ⟨HB3.out.ext (ext_new _ _), rdrP_ext hd (ext_new _ _), Blk.new _ _ _, HG.out.1, HG.out.2, Ext.trans HX3.out (ext_new _ _)⟩)
      clear hd hx hG0 hG1
      have a0 : w3.cell? ⟨w1.heap.size, 0, none⟩ = some (.int .u8 ak) := HA3.out.cell 0 _ rfl
      have a1 : w3.cell? ⟨w1.heap.size, 1, none⟩ = some (.int .i64 an) := HA3.out.cell 1 _ rfl
      have a2 : w3.cell? ⟨w1.heap.size, 2, none⟩ = some (.string ⟨as'.toArray⟩) := HA3.out.cell 2 _ rfl
      have b0 : w3.cell? ⟨w2.heap.size, 0, none⟩ = some (.int .u8 bk) := HV3.out.cell 0 _ rfl
      have b1 : w3.cell? ⟨w2.heap.size, 1, none⟩ = some (.int .i64 bn) := HV3.out.cell 1 _ rfl
      have b2 : w3.cell? ⟨w2.heap.size, 2, none⟩ = some (.string ⟨bs.toArray⟩) := HV3.out.cell 2 _ rfl
      go_wp2_with fail
      refine (RInt_tk _ G m2 false _ (fun h => by cases h) HN3.out.d).mono ?_
      rintro e w4 ⟨rfl, hd, ho⟩
      have HZ4 := Lib.hid (HN3.out.only hd ho)
      have HZ5 := Lib.hid (HZ4.out.set6 (zag (tk m2).1))
      have s6 : w4.cell? ⟨w3.heap.size, 6, none⟩ = some (.int .i64 0) := HZ4.out.z.cell 6 _ rfl
      have sf6 : w4.frozen? ⟨w3.heap.size, 6, none⟩ = false := HZ4.out.z.free 6
      clear hd ho a0 a1 a2 b0 b1 b2
      go_wp2_with fail
      refine (RInt_tk _ G (tk m2).2.1 (tk m2).2.2 _ tk_bad_nil HZ5.out.d).mono ?_
      rintro e w5 ⟨rfl, hd, ho⟩
      have HZ6 := Lib.hid (HZ5.out.only hd ho)
      have HZ7 := Lib.hid (HZ6.out.set7 (zag (tk (tk m2).2.1).1))
      have s7 : w5.cell? ⟨w3.heap.size, 7, none⟩ = some (.int .i64 0) := HZ6.out.z.cell 7 _ rfl
      have sf7 : w5.frozen? ⟨w3.heap.size, 7, none⟩ = false := HZ6.out.z.free 7
      clear hd ho s6 sf6
      go_upto_region 11 with fail
      generalize w5.setCell ⟨w3.heap.size, 7, none⟩ (.int .i64 (zag (tk (tk m2).2.1).1)) = W at HZ7 ⊢
      obtain ⟨g, hg⟩ : ∃ g, w3.heap.size = g := ⟨_, rfl⟩
      rw [hg] at HZ7 ⊢
      have HEND := Lib.hid (fun W' (hx : Ext W W') => End_tk _ G (tk (tk m2).2.1).2.1 (tk (tk m2).2.1).2.2 W' ((HZ7.out.ext hx).d))
      have HNUM := Lib.hid (fun (k : Int) hend => takeZ_of (k := k) (z := ⟨⟨ak, an, as'⟩, ⟨bk, bn, bs⟩, zag (tk m2).1, zag (tk (tk m2).2.1).1⟩) HTK.out HTK2.out (if_pos hend))
      have HNO := Lib.hid (fun (k : Int) hend => takeZ_none3 (k := k) HTK.out HTK2.out hend)
      clear s7 sf7 hg
      generalize zag (tk m2).1 = n1 at HZ7 HNUM ⊢
      generalize zag (tk (tk m2).2.1).1 = n2 at HZ7 HNUM ⊢
      have HO := Lib.hid (only_drew w.heap.size W)
      have HNE := Lib.hid (show g ≠ w.heap.size from by have h1 := HZ7.out.wG; have h2 := HZ7.out.Gg; omega)
      have p0 := only_cells (fun j u hj => HZ7.out.z.cell j u hj) HO.out HNE.out 0 (.int .u8 ak) rfl
      have p1 := only_cells (fun j u hj => HZ7.out.z.cell j u hj) HO.out HNE.out 1 (.int .i64 an) rfl
      have p2 := only_cells (fun j u hj => HZ7.out.z.cell j u hj) HO.out HNE.out 2 (.string ⟨as'.toArray⟩) rfl
      have p3 := only_cells (fun j u hj => HZ7.out.z.cell j u hj) HO.out HNE.out 3 (.int .u8 bk) rfl
      have p4 := only_cells (fun j u hj => HZ7.out.z.cell j u hj) HO.out HNE.out 4 (.int .i64 bn) rfl
      have p5 := only_cells (fun j u hj => HZ7.out.z.cell j u hj) HO.out HNE.out 5 (.string ⟨bs.toArray⟩) rfl
      have p6 := only_cells (fun j u hj => HZ7.out.z.cell j u hj) HO.out HNE.out 6 (.int .i64 n1) rfl
      have p7 := only_cells (fun j u hj => HZ7.out.z.cell j u hj) HO.out HNE.out 7 (.int .i64 n2) rfl
      obtain ⟨E, hE⟩ : ∃ E : Int, (if (tk (tk m2).2.1).2.2 = false ∧ (tk (tk m2).2.1).2.1.length = 0 then (0 : Int) else 6) = E := ⟨_, rfl⟩
      rw [hE] at HEND
      have HANS := Lib.hid (show (E = 0 ∧ (⟨⟨ak, an, as'⟩, ⟨bk, bn, bs⟩, n1, n2⟩ : Zo).fits ∧ (⟨⟨ak, an, as'⟩, ⟨bk, bn, bs⟩, n1, n2⟩ : Zo).small 1024 ∧ ∀ k, takeZ k b = if rightZ k ⟨⟨ak, an, as'⟩, ⟨bk, bn, bs⟩, n1, n2⟩ then (⟨⟨ak, an, as'⟩, ⟨bk, bn, bs⟩, n1, n2⟩, 0) else (Zo.zero, 6)) ∨ (E = 6 ∧ ∀ k, takeZ k b = (Zo.zero, 6)) from by
        by_cases hend : (tk (tk m2).2.1).2.2 = false ∧ (tk (tk m2).2.1).2.1.length = 0
        · rw [if_pos hend] at hE
          exact .inl ⟨hE.symm, (HNUM.out 0 hend).1, (HNUM.out 0 hend).2.1, fun k => (HNUM.out k hend).2.2.2⟩
        · rw [if_neg hend] at hE
          exact .inr ⟨hE.symm, fun k => HNO.out k hend⟩)
      clear hE HNUM HNO
      refine wp_region_segs (Only w.heap.size) (Only.keeps _) [([0, 1], some 2), ([], some 3), ([4], none)] (by kernel_rfl) (by kernel_rfl) (fun c a a' w e h => (by exact ⟨e ▸ h.1, h.2⟩)) ?_
      simp only [pickSegs, pickOps, List.map_cons, List.map_nil, Option.map_some, Option.map_none, Option.getD_some, List.getElem?_toArray, List.getElem?_cons_zero, List.getElem?_cons_succ]
      refine wpSegs_some fun K hK => ?_
      repeat go_big_quiet_step (fail)
      refine wpQuiet_nil ?_
      clear p0 p1 p2 p3 p4 p5 p6 p7
      go_wp2_with fail
      refine (HEND.out _ (Ext.drew W)).mono ?_
      rintro e w6 ⟨rfl, rfl⟩
      go_wp2_with fail
      refine ⟨Only.refl _ _, hK _ _ ?_⟩
      clear hK K
      refine wpSegs_some fun K hK => ?_
      refine wpQuiet_nil ?_
      have r0 : W.cell? ⟨w.heap.size, 0, none⟩ = some (.int .u8 0) := HZ7.out.r.cell 0 _ rfl
      have r1 : W.cell? ⟨w.heap.size, 1, none⟩ = some (.int .i64 0) := HZ7.out.r.cell 1 _ rfl
      have r2 : W.cell? ⟨w.heap.size, 2, none⟩ = some (.string ⟨#[]⟩) := HZ7.out.r.cell 2 _ rfl
      have r3 : W.cell? ⟨w.heap.size, 3, none⟩ = some (.int .u8 0) := HZ7.out.r.cell 3 _ rfl
      have r4 : W.cell? ⟨w.heap.size, 4, none⟩ = some (.int .i64 0) := HZ7.out.r.cell 4 _ rfl
      have r5 : W.cell? ⟨w.heap.size, 5, none⟩ = some (.string ⟨#[]⟩) := HZ7.out.r.cell 5 _ rfl
      have r6 : W.cell? ⟨w.heap.size, 6, none⟩ = some (.int .i64 0) := HZ7.out.r.cell 6 _ rfl
      have r7 : W.cell? ⟨w.heap.size, 7, none⟩ = some (.int .i64 0) := HZ7.out.r.cell 7 _ rfl
      have f0 : W.frozen? ⟨w.heap.size, 0, none⟩ = false := HZ7.out.r.free 0
      have f1 : W.frozen? ⟨w.heap.size, 1, none⟩ = false := HZ7.out.r.free 1
      have f2 : W.frozen? ⟨w.heap.size, 2, none⟩ = false := HZ7.out.r.free 2
      have f3 : W.frozen? ⟨w.heap.size, 3, none⟩ = false := HZ7.out.r.free 3
      have f4 : W.frozen? ⟨w.heap.size, 4, none⟩ = false := HZ7.out.r.free 4
      have f5 : W.frozen? ⟨w.heap.size, 5, none⟩ = false := HZ7.out.r.free 5
      have f6 : W.frozen? ⟨w.heap.size, 6, none⟩ = false := HZ7.out.r.free 6
      have f7 : W.frozen? ⟨w.heap.size, 7, none⟩ = false := HZ7.out.r.free 7
      go_wp2_with fail
      refine ⟨only_put8_drew W w.heap.size ⟨⟨ak, an, as'⟩, ⟨bk, bn, bs⟩, n1, n2⟩, hK _ _ ?_⟩
      clear hK K
      refine wpSegs_none ?_
      repeat go_big_quiet_step (fail)
      refine wpQuiet_nil (wpSegs_nil ?_)
      go_wp2_with fail
      have HP := Lib.hid (HZ7.out.r.put8 ⟨⟨ak, an, as'⟩, ⟨bk, bn, bs⟩, n1, n2⟩)
      have p0 := HP.out.cell 0 (.int .u8 ak) rfl
      have p1 := HP.out.cell 1 (.int .i64 an) rfl
      have p2 := HP.out.cell 2 (.string ⟨as'.toArray⟩) rfl
      have p3 := HP.out.cell 3 (.int .u8 bk) rfl
      have p4 := HP.out.cell 4 (.int .i64 bn) rfl
      have p5 := HP.out.cell 5 (.string ⟨bs.toArray⟩) rfl
      have p6 := HP.out.cell 6 (.int .i64 n1) rfl
      have p7 := HP.out.cell 7 (.int .i64 n2) rfl
      simp only [put8] at p0 p1 p2 p3 p4 p5 p6 p7
      refine bodyPost_ret (v := .tuple #[.agg #[.int .u8 ak, .int .i64 an, .string ⟨as'.toArray⟩, .int .u8 bk, .int .i64 bn, .string ⟨bs.toArray⟩, .int .i64 n1, .int .i64 n2], .int .i64 E]) (by simp [results, Try.results36, go_sem, p0, p1, p2, p3, p4, p5, p6, p7]) rfl ⟨⟨⟨⟨ak, an, as'⟩, ⟨bk, bn, bs⟩, n1, n2⟩, E, rfl, HANS.out⟩, Ext.trans (below_put8 HZ7.out.x (Nat.le_refl _) ⟨⟨ak, an, as'⟩, ⟨bk, bn, bs⟩, n1, n2⟩) (Ext.drew _)⟩
    · have HT := Lib.hid (fun k => takeZ_none2 (k := k) HTK.out hno)
      have HB2 := Lib.hid ((HB1.out.ext HN1.out).ext hx)
      have HX2 := Lib.hid (Ext.trans (Ext.trans HX1.out HN1.out) hx)
      clear hno hx
      have r0 : ∀ o, (w2.alloc o).cell? ⟨w.heap.size, 0, none⟩ = some (.int .u8 0) := fun o => (HB2.out.ext (ext_new w2 o)).cell 0 _ rfl
      have r1 : ∀ o, (w2.alloc o).cell? ⟨w.heap.size, 1, none⟩ = some (.int .i64 0) := fun o => (HB2.out.ext (ext_new w2 o)).cell 1 _ rfl
      have r2 : ∀ o, (w2.alloc o).cell? ⟨w.heap.size, 2, none⟩ = some (.string ⟨#[]⟩) := fun o => (HB2.out.ext (ext_new w2 o)).cell 2 _ rfl
      have r3 : ∀ o, (w2.alloc o).cell? ⟨w.heap.size, 3, none⟩ = some (.int .u8 0) := fun o => (HB2.out.ext (ext_new w2 o)).cell 3 _ rfl
      have r4 : ∀ o, (w2.alloc o).cell? ⟨w.heap.size, 4, none⟩ = some (.int .i64 0) := fun o => (HB2.out.ext (ext_new w2 o)).cell 4 _ rfl
      have r5 : ∀ o, (w2.alloc o).cell? ⟨w.heap.size, 5, none⟩ = some (.string ⟨#[]⟩) := fun o => (HB2.out.ext (ext_new w2 o)).cell 5 _ rfl
      have r6 : ∀ o, (w2.alloc o).cell? ⟨w.heap.size, 6, none⟩ = some (.int .i64 0) := fun o => (HB2.out.ext (ext_new w2 o)).cell 6 _ rfl
      have r7 : ∀ o, (w2.alloc o).cell? ⟨w.heap.size, 7, none⟩ = some (.int .i64 0) := fun o => (HB2.out.ext (ext_new w2 o)).cell 7 _ rfl
      have f0 : ∀ o, (w2.alloc o).frozen? ⟨w.heap.size, 0, none⟩ = false := fun o => (HB2.out.ext (ext_new w2 o)).free 0
      have f1 : ∀ o, (w2.alloc o).frozen? ⟨w.heap.size, 1, none⟩ = false := fun o => (HB2.out.ext (ext_new w2 o)).free 1
      have f2 : ∀ o, (w2.alloc o).frozen? ⟨w.heap.size, 2, none⟩ = false := fun o => (HB2.out.ext (ext_new w2 o)).free 2
      have f3 : ∀ o, (w2.alloc o).frozen? ⟨w.heap.size, 3, none⟩ = false := fun o => (HB2.out.ext (ext_new w2 o)).free 3
      have f4 : ∀ o, (w2.alloc o).frozen? ⟨w.heap.size, 4, none⟩ = false := fun o => (HB2.out.ext (ext_new w2 o)).free 4
      have f5 : ∀ o, (w2.alloc o).frozen? ⟨w.heap.size, 5, none⟩ = false := fun o => (HB2.out.ext (ext_new w2 o)).free 5
      have f6 : ∀ o, (w2.alloc o).frozen? ⟨w.heap.size, 6, none⟩ = false := fun o => (HB2.out.ext (ext_new w2 o)).free 6
      have f7 : ∀ o, (w2.alloc o).frozen? ⟨w.heap.size, 7, none⟩ = false := fun o => (HB2.out.ext (ext_new w2 o)).free 7
      go_wp2_with fail
      have HP := Lib.hid ((HB2.out.ext (ext_new w2 (.cells #[.int .u8 0, .int .i64 0, .string ⟨#[]⟩] 24))).put8 Zo.zero)
      have p0 := HP.out.cell 0 (.int .u8 0) rfl
      have p1 := HP.out.cell 1 (.int .i64 0) rfl
      have p2 := HP.out.cell 2 (.string ⟨#[]⟩) rfl
      have p3 := HP.out.cell 3 (.int .u8 0) rfl
      have p4 := HP.out.cell 4 (.int .i64 0) rfl
      have p5 := HP.out.cell 5 (.string ⟨#[]⟩) rfl
      have p6 := HP.out.cell 6 (.int .i64 0) rfl
      have p7 := HP.out.cell 7 (.int .i64 0) rfl
      simp only [put8, Zo.zero, V.zero] at p0 p1 p2 p3 p4 p5 p6 p7
      refine bodyPost_ret (v := .tuple #[Zo.zero.val, .int .i64 6]) (by simp [results, Try.results36, go_sem, Zo.val, Zo.zero, V.zero, p0, p1, p2, p3, p4, p5, p6, p7]) rfl ⟨⟨_, _, rfl, .inr ⟨rfl, HT.out⟩⟩, below_put8 (Ext.trans HX2.out (ext_new w2 _)) (Nat.le_refl _) Zo.zero⟩
  · have HT := Lib.hid (fun k => takeZ_none1 (k := k) hno)
    have HB1 := Lib.hid (HB0.out.ext hx)
    have HX1 := Lib.hid (Ext.trans HX0.out hx)
    clear hno hx
    have r0 : ∀ o, (w1.alloc o).cell? ⟨w.heap.size, 0, none⟩ = some (.int .u8 0) := fun o => (HB1.out.ext (ext_new w1 o)).cell 0 _ rfl
    have r1 : ∀ o, (w1.alloc o).cell? ⟨w.heap.size, 1, none⟩ = some (.int .i64 0) := fun o => (HB1.out.ext (ext_new w1 o)).cell 1 _ rfl
    have r2 : ∀ o, (w1.alloc o).cell? ⟨w.heap.size, 2, none⟩ = some (.string ⟨#[]⟩) := fun o => (HB1.out.ext (ext_new w1 o)).cell 2 _ rfl
    have r3 : ∀ o, (w1.alloc o).cell? ⟨w.heap.size, 3, none⟩ = some (.int .u8 0) := fun o => (HB1.out.ext (ext_new w1 o)).cell 3 _ rfl
    have r4 : ∀ o, (w1.alloc o).cell? ⟨w.heap.size, 4, none⟩ = some (.int .i64 0) := fun o => (HB1.out.ext (ext_new w1 o)).cell 4 _ rfl
    have r5 : ∀ o, (w1.alloc o).cell? ⟨w.heap.size, 5, none⟩ = some (.string ⟨#[]⟩) := fun o => (HB1.out.ext (ext_new w1 o)).cell 5 _ rfl
    have r6 : ∀ o, (w1.alloc o).cell? ⟨w.heap.size, 6, none⟩ = some (.int .i64 0) := fun o => (HB1.out.ext (ext_new w1 o)).cell 6 _ rfl
    have r7 : ∀ o, (w1.alloc o).cell? ⟨w.heap.size, 7, none⟩ = some (.int .i64 0) := fun o => (HB1.out.ext (ext_new w1 o)).cell 7 _ rfl
    have f0 : ∀ o, (w1.alloc o).frozen? ⟨w.heap.size, 0, none⟩ = false := fun o => (HB1.out.ext (ext_new w1 o)).free 0
    have f1 : ∀ o, (w1.alloc o).frozen? ⟨w.heap.size, 1, none⟩ = false := fun o => (HB1.out.ext (ext_new w1 o)).free 1
    have f2 : ∀ o, (w1.alloc o).frozen? ⟨w.heap.size, 2, none⟩ = false := fun o => (HB1.out.ext (ext_new w1 o)).free 2
    have f3 : ∀ o, (w1.alloc o).frozen? ⟨w.heap.size, 3, none⟩ = false := fun o => (HB1.out.ext (ext_new w1 o)).free 3
    have f4 : ∀ o, (w1.alloc o).frozen? ⟨w.heap.size, 4, none⟩ = false := fun o => (HB1.out.ext (ext_new w1 o)).free 4
    have f5 : ∀ o, (w1.alloc o).frozen? ⟨w.heap.size, 5, none⟩ = false := fun o => (HB1.out.ext (ext_new w1 o)).free 5
    have f6 : ∀ o, (w1.alloc o).frozen? ⟨w.heap.size, 6, none⟩ = false := fun o => (HB1.out.ext (ext_new w1 o)).free 6
    have f7 : ∀ o, (w1.alloc o).frozen? ⟨w.heap.size, 7, none⟩ = false := fun o => (HB1.out.ext (ext_new w1 o)).free 7
    go_wp2_with fail
    have HP := Lib.hid ((HB1.out.ext (ext_new w1 (.cells #[.int .u8 0, .int .i64 0, .string ⟨#[]⟩] 24))).put8 Zo.zero)
    have p0 := HP.out.cell 0 (.int .u8 0) rfl
    have p1 := HP.out.cell 1 (.int .i64 0) rfl
    have p2 := HP.out.cell 2 (.string ⟨#[]⟩) rfl
    have p3 := HP.out.cell 3 (.int .u8 0) rfl
    have p4 := HP.out.cell 4 (.int .i64 0) rfl
    have p5 := HP.out.cell 5 (.string ⟨#[]⟩) rfl
    have p6 := HP.out.cell 6 (.int .i64 0) rfl
    have p7 := HP.out.cell 7 (.int .i64 0) rfl
    simp only [put8, Zo.zero, V.zero] at p0 p1 p2 p3 p4 p5 p6 p7
    refine bodyPost_ret (v := .tuple #[Zo.zero.val, .int .i64 6]) (by simp [results, Try.results36, go_sem, Zo.val, Zo.zero, V.zero, p0, p1, p2, p3, p4, p5, p6, p7]) rfl ⟨⟨_, _, rfl, .inr ⟨rfl, HT.out⟩⟩, below_put8 (Ext.trans HX1.out (ext_new w1 _)) (Nat.le_refl _) Zo.zero⟩

set_option maxRecDepth 100000 in
set_option maxHeartbeats 4000000 in
theorem pTakeZ_any (k : Int) (u : Value) (b : List UInt8) (w : World) (hk : 0 ≤ k ∧ k ≤ 255) (hr : Rd w u b) (hl : b.length ≤ 1000000) :
    Calls Try.prog 16 #[.int .u8 k, u] w fun e w' => e = .returned (.tuple #[(takenZ k b).1.val, .int .i64 (takenZ k b).2]) ∧ Ext w w' := by
  obtain ⟨ua, uc, rfl, -, -⟩ := hr.shape
  have HU := Lib.hid hr
  have HK := Lib.hid (fun W => pIsKindZ_any k W hk)
  have HB0 := Lib.hid (Blk.new w Zo.zero.cells 26)
  have HX0 := Lib.hid (ext_new w (.cells Zo.zero.cells.toArray 26))
  have HRZ := Lib.hid (fun z W h1 h2 => pRightZ_any k z W hk h1 h2)
  have HLB := Lib.hid hl
  obtain ⟨L, hL⟩ : ∃ L, b.length = L := ⟨_, rfl⟩
  have HL := Lib.hid hL
  rw [hL]
  clear hr hl hL
  by_cases h13 : 1 ≤ k ∧ k ≤ 3
  · rw [decide_eq_true h13] at HK
    have HTT := Lib.hid (show takenZ k b = takeZ k b from if_neg (fun h => h h13))
    clear h13 hk
    go_enter Try.func16, Try.ntmps16
    go_wp2_with fail
    refine (HK.out _).mono ?_
    rintro e w1 ⟨rfl, rfl⟩
    go_wp2_with fail
    refine (pReadZ_any _ b _ (by have := HU.out.mono HX0.out; rw [HL.out] at this; exact this) HLB.out).mono ?_
    rintro e w1 ⟨⟨z, E, rfl, hz⟩, hx⟩
    have HB1 := Lib.hid (HB0.out.ext hx)
    have HX1 := Lib.hid (Ext.trans HX0.out hx)
    have HZ := Lib.hid hz
    clear hx
    rcases hz with ⟨rfl, hf, hs, hall⟩ | ⟨rfl, hall⟩
    · have HR := Lib.hid (fun W => HRZ.out z W hf ⟨Nat.le_trans hs.1 (by decide), Nat.le_trans hs.2 (by decide)⟩)
      have HT := Lib.hid (hall k)
      clear hf hs hall HZ
      obtain ⟨⟨ak, an, as'⟩, ⟨bk, bn, bs⟩, n1, n2⟩ := z
      unfold Zo.val at HR ⊢
      simp only at HR ⊢
      go_wp2_with fail
      refine (HR.out _).mono ?_
      rintro e w2 ⟨rfl, hx⟩
      have HB2 := Lib.hid ((HB1.out.ext (ext_new _ _)).ext hx)
      have HX2 := Lib.hid (Ext.trans (Ext.trans HX1.out (ext_new _ _)) hx)
      have HV2 := Lib.hid ((Blk.new w1 [.int .u8 ak, .int .i64 an, .string ⟨as'.toArray⟩, .int .u8 bk, .int .i64 bn, .string ⟨bs.toArray⟩, .int .i64 n1, .int .i64 n2] 26).ext hx)
      clear hx
      by_cases hr : rightZ k ⟨⟨ak, an, as'⟩, ⟨bk, bn, bs⟩, n1, n2⟩
      · rw [decide_eq_true hr]
        have HT2 := Lib.hid (HT.out.trans (if_pos hr))
        clear hr
        have e0 : w2.cell? ⟨w1.heap.size, 0, none⟩ = some (.int .u8 ak) := HV2.out.cell 0 _ rfl
        have e1 : w2.cell? ⟨w1.heap.size, 1, none⟩ = some (.int .i64 an) := HV2.out.cell 1 _ rfl
        have e2 : w2.cell? ⟨w1.heap.size, 2, none⟩ = some (.string ⟨as'.toArray⟩) := HV2.out.cell 2 _ rfl
        have e3 : w2.cell? ⟨w1.heap.size, 3, none⟩ = some (.int .u8 bk) := HV2.out.cell 3 _ rfl
        have e4 : w2.cell? ⟨w1.heap.size, 4, none⟩ = some (.int .i64 bn) := HV2.out.cell 4 _ rfl
        have e5 : w2.cell? ⟨w1.heap.size, 5, none⟩ = some (.string ⟨bs.toArray⟩) := HV2.out.cell 5 _ rfl
        have e6 : w2.cell? ⟨w1.heap.size, 6, none⟩ = some (.int .i64 n1) := HV2.out.cell 6 _ rfl
        have e7 : w2.cell? ⟨w1.heap.size, 7, none⟩ = some (.int .i64 n2) := HV2.out.cell 7 _ rfl
        have r0 : w2.cell? ⟨w.heap.size, 0, none⟩ = some (.int .u8 0) := HB2.out.cell 0 _ rfl
        have r1 : w2.cell? ⟨w.heap.size, 1, none⟩ = some (.int .i64 0) := HB2.out.cell 1 _ rfl
        have r2 : w2.cell? ⟨w.heap.size, 2, none⟩ = some (.string ⟨#[]⟩) := HB2.out.cell 2 _ rfl
        have r3 : w2.cell? ⟨w.heap.size, 3, none⟩ = some (.int .u8 0) := HB2.out.cell 3 _ rfl
        have r4 : w2.cell? ⟨w.heap.size, 4, none⟩ = some (.int .i64 0) := HB2.out.cell 4 _ rfl
        have r5 : w2.cell? ⟨w.heap.size, 5, none⟩ = some (.string ⟨#[]⟩) := HB2.out.cell 5 _ rfl
        have r6 : w2.cell? ⟨w.heap.size, 6, none⟩ = some (.int .i64 0) := HB2.out.cell 6 _ rfl
        have r7 : w2.cell? ⟨w.heap.size, 7, none⟩ = some (.int .i64 0) := HB2.out.cell 7 _ rfl
        have f0 : w2.frozen? ⟨w.heap.size, 0, none⟩ = false := HB2.out.free 0
        have f1 : w2.frozen? ⟨w.heap.size, 1, none⟩ = false := HB2.out.free 1
        have f2 : w2.frozen? ⟨w.heap.size, 2, none⟩ = false := HB2.out.free 2
        have f3 : w2.frozen? ⟨w.heap.size, 3, none⟩ = false := HB2.out.free 3
        have f4 : w2.frozen? ⟨w.heap.size, 4, none⟩ = false := HB2.out.free 4
        have f5 : w2.frozen? ⟨w.heap.size, 5, none⟩ = false := HB2.out.free 5
        have f6 : w2.frozen? ⟨w.heap.size, 6, none⟩ = false := HB2.out.free 6
        have f7 : w2.frozen? ⟨w.heap.size, 7, none⟩ = false := HB2.out.free 7
        go_wp2_with fail
        have HP := Lib.hid (HB2.out.put8 ⟨⟨ak, an, as'⟩, ⟨bk, bn, bs⟩, n1, n2⟩)
        have p0 := HP.out.cell 0 (.int .u8 ak) rfl
        have p1 := HP.out.cell 1 (.int .i64 an) rfl
        have p2 := HP.out.cell 2 (.string ⟨as'.toArray⟩) rfl
        have p3 := HP.out.cell 3 (.int .u8 bk) rfl
        have p4 := HP.out.cell 4 (.int .i64 bn) rfl
        have p5 := HP.out.cell 5 (.string ⟨bs.toArray⟩) rfl
        have p6 := HP.out.cell 6 (.int .i64 n1) rfl
        have p7 := HP.out.cell 7 (.int .i64 n2) rfl
        simp only [put8] at p0 p1 p2 p3 p4 p5 p6 p7
        refine bodyPost_ret (v := .tuple #[.agg #[.int .u8 ak, .int .i64 an, .string ⟨as'.toArray⟩, .int .u8 bk, .int .i64 bn, .string ⟨bs.toArray⟩, .int .i64 n1, .int .i64 n2], .int .i64 0]) (by simp [results, Try.results16, go_sem, p0, p1, p2, p3, p4, p5, p6, p7]) rfl ⟨by rw [HTT.out, HT2.out]; rfl, below_put8 HX2.out (Nat.le_refl _) ⟨⟨ak, an, as'⟩, ⟨bk, bn, bs⟩, n1, n2⟩⟩
      · rw [decide_eq_false hr]
        have HT2 := Lib.hid (HT.out.trans (if_neg hr))
        clear hr
        have r0 : w2.cell? ⟨w.heap.size, 0, none⟩ = some (.int .u8 0) := HB2.out.cell 0 _ rfl
        have r1 : w2.cell? ⟨w.heap.size, 1, none⟩ = some (.int .i64 0) := HB2.out.cell 1 _ rfl
        have r2 : w2.cell? ⟨w.heap.size, 2, none⟩ = some (.string ⟨#[]⟩) := HB2.out.cell 2 _ rfl
        have r3 : w2.cell? ⟨w.heap.size, 3, none⟩ = some (.int .u8 0) := HB2.out.cell 3 _ rfl
        have r4 : w2.cell? ⟨w.heap.size, 4, none⟩ = some (.int .i64 0) := HB2.out.cell 4 _ rfl
        have r5 : w2.cell? ⟨w.heap.size, 5, none⟩ = some (.string ⟨#[]⟩) := HB2.out.cell 5 _ rfl
        have r6 : w2.cell? ⟨w.heap.size, 6, none⟩ = some (.int .i64 0) := HB2.out.cell 6 _ rfl
        have r7 : w2.cell? ⟨w.heap.size, 7, none⟩ = some (.int .i64 0) := HB2.out.cell 7 _ rfl
        have f0 : w2.frozen? ⟨w.heap.size, 0, none⟩ = false := HB2.out.free 0
        have f1 : w2.frozen? ⟨w.heap.size, 1, none⟩ = false := HB2.out.free 1
        have f2 : w2.frozen? ⟨w.heap.size, 2, none⟩ = false := HB2.out.free 2
        have f3 : w2.frozen? ⟨w.heap.size, 3, none⟩ = false := HB2.out.free 3
        have f4 : w2.frozen? ⟨w.heap.size, 4, none⟩ = false := HB2.out.free 4
        have f5 : w2.frozen? ⟨w.heap.size, 5, none⟩ = false := HB2.out.free 5
        have f6 : w2.frozen? ⟨w.heap.size, 6, none⟩ = false := HB2.out.free 6
        have f7 : w2.frozen? ⟨w.heap.size, 7, none⟩ = false := HB2.out.free 7
        go_wp2_with fail
        have HP := Lib.hid (HB2.out.put8 Zo.zero)
        have p0 := HP.out.cell 0 (.int .u8 0) rfl
        have p1 := HP.out.cell 1 (.int .i64 0) rfl
        have p2 := HP.out.cell 2 (.string ⟨#[]⟩) rfl
        have p3 := HP.out.cell 3 (.int .u8 0) rfl
        have p4 := HP.out.cell 4 (.int .i64 0) rfl
        have p5 := HP.out.cell 5 (.string ⟨#[]⟩) rfl
        have p6 := HP.out.cell 6 (.int .i64 0) rfl
        have p7 := HP.out.cell 7 (.int .i64 0) rfl
        simp only [put8, Zo.zero, V.zero] at p0 p1 p2 p3 p4 p5 p6 p7
        refine bodyPost_ret (v := .tuple #[Zo.zero.val, .int .i64 6]) (by simp [results, Try.results16, go_sem, Zo.val, Zo.zero, V.zero, p0, p1, p2, p3, p4, p5, p6, p7]) rfl ⟨by rw [HTT.out, HT2.out], below_put8 HX2.out (Nat.le_refl _) Zo.zero⟩
    · have HT := Lib.hid (hall k)
      clear hall HZ
      obtain ⟨⟨ak, an, as'⟩, ⟨bk, bn, bs⟩, n1, n2⟩ := z
      unfold Zo.val
      simp only
      have r0 : ∀ o, (w1.alloc o).cell? ⟨w.heap.size, 0, none⟩ = some (.int .u8 0) := fun o => (HB1.out.ext (ext_new w1 o)).cell 0 _ rfl
      have r1 : ∀ o, (w1.alloc o).cell? ⟨w.heap.size, 1, none⟩ = some (.int .i64 0) := fun o => (HB1.out.ext (ext_new w1 o)).cell 1 _ rfl
      have r2 : ∀ o, (w1.alloc o).cell? ⟨w.heap.size, 2, none⟩ = some (.string ⟨#[]⟩) := fun o => (HB1.out.ext (ext_new w1 o)).cell 2 _ rfl
      have r3 : ∀ o, (w1.alloc o).cell? ⟨w.heap.size, 3, none⟩ = some (.int .u8 0) := fun o => (HB1.out.ext (ext_new w1 o)).cell 3 _ rfl
      have r4 : ∀ o, (w1.alloc o).cell? ⟨w.heap.size, 4, none⟩ = some (.int .i64 0) := fun o => (HB1.out.ext (ext_new w1 o)).cell 4 _ rfl
      have r5 : ∀ o, (w1.alloc o).cell? ⟨w.heap.size, 5, none⟩ = some (.string ⟨#[]⟩) := fun o => (HB1.out.ext (ext_new w1 o)).cell 5 _ rfl
      have r6 : ∀ o, (w1.alloc o).cell? ⟨w.heap.size, 6, none⟩ = some (.int .i64 0) := fun o => (HB1.out.ext (ext_new w1 o)).cell 6 _ rfl
      have r7 : ∀ o, (w1.alloc o).cell? ⟨w.heap.size, 7, none⟩ = some (.int .i64 0) := fun o => (HB1.out.ext (ext_new w1 o)).cell 7 _ rfl
      have f0 : ∀ o, (w1.alloc o).frozen? ⟨w.heap.size, 0, none⟩ = false := fun o => (HB1.out.ext (ext_new w1 o)).free 0
      have f1 : ∀ o, (w1.alloc o).frozen? ⟨w.heap.size, 1, none⟩ = false := fun o => (HB1.out.ext (ext_new w1 o)).free 1
      have f2 : ∀ o, (w1.alloc o).frozen? ⟨w.heap.size, 2, none⟩ = false := fun o => (HB1.out.ext (ext_new w1 o)).free 2
      have f3 : ∀ o, (w1.alloc o).frozen? ⟨w.heap.size, 3, none⟩ = false := fun o => (HB1.out.ext (ext_new w1 o)).free 3
      have f4 : ∀ o, (w1.alloc o).frozen? ⟨w.heap.size, 4, none⟩ = false := fun o => (HB1.out.ext (ext_new w1 o)).free 4
      have f5 : ∀ o, (w1.alloc o).frozen? ⟨w.heap.size, 5, none⟩ = false := fun o => (HB1.out.ext (ext_new w1 o)).free 5
      have f6 : ∀ o, (w1.alloc o).frozen? ⟨w.heap.size, 6, none⟩ = false := fun o => (HB1.out.ext (ext_new w1 o)).free 6
      have f7 : ∀ o, (w1.alloc o).frozen? ⟨w.heap.size, 7, none⟩ = false := fun o => (HB1.out.ext (ext_new w1 o)).free 7
      go_wp2_with fail
      have HP := Lib.hid ((HB1.out.ext (ext_new w1 (.cells #[.int .u8 ak, .int .i64 an, .string ⟨as'.toArray⟩, .int .u8 bk, .int .i64 bn, .string ⟨bs.toArray⟩, .int .i64 n1, .int .i64 n2] 26))).put8 Zo.zero)
      have p0 := HP.out.cell 0 (.int .u8 0) rfl
      have p1 := HP.out.cell 1 (.int .i64 0) rfl
      have p2 := HP.out.cell 2 (.string ⟨#[]⟩) rfl
      have p3 := HP.out.cell 3 (.int .u8 0) rfl
      have p4 := HP.out.cell 4 (.int .i64 0) rfl
      have p5 := HP.out.cell 5 (.string ⟨#[]⟩) rfl
      have p6 := HP.out.cell 6 (.int .i64 0) rfl
      have p7 := HP.out.cell 7 (.int .i64 0) rfl
      simp only [put8, Zo.zero, V.zero] at p0 p1 p2 p3 p4 p5 p6 p7
      refine bodyPost_ret (v := .tuple #[Zo.zero.val, .int .i64 6]) (by simp [results, Try.results16, go_sem, Zo.val, Zo.zero, V.zero, p0, p1, p2, p3, p4, p5, p6, p7]) rfl ⟨by rw [HTT.out, HT.out], below_put8 (Ext.trans HX1.out (ext_new w1 _)) (Nat.le_refl _) Zo.zero⟩
  · rw [decide_eq_false h13] at HK
    have HTT := Lib.hid (show takenZ k b = (Zo.zero, 1) from if_pos h13)
    clear h13 hk
    go_enter Try.func16, Try.ntmps16
    go_wp2_with fail
    refine (HK.out _).mono ?_
    rintro e w1 ⟨rfl, rfl⟩
    go_wp2_with fail
    refine bodyPost_ret (v := .tuple #[Zo.zero.val, .int .i64 1]) (by simp [results, Try.results16, go_sem, Zo.val, Zo.zero, V.zero]) rfl ⟨by rw [HTT.out], HX0.out⟩

end Go.Proofs.Ytlbilmmjcfiokaa
