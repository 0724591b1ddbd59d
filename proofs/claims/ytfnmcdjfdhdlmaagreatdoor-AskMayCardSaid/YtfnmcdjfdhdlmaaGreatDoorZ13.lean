/-
  Texts of this proof, merged: MayP2, MayP3, MayP4, LikeRef.
-/
import Derived.Test.YtfnmcdjfdhdlmaaGreatDoorZ12
import Derived.Test.YtfnmcdjfdhdlmaaGreatDoorZ5
import Derived.Test.YtfnmcdjfdhdlmaaGreatDoorZ3
import Derived.Test.YtfnmcdjfdhdlmaaGreatDoorZ6
/-
  The program's contracts of what may come of conditions: a node without parts.
-/
namespace Go.Proofs.YtfnmcdjfdhdlmaaGreatDoor
open Go.ChangeAt Go.RowKit Go.BigFrame

/-- A slice reads as these zones. -/
def RdZos (w : World) (u : Value) (l : List Zo) : Prop :=
  ∃ ao cap, u = .slice ao l.length cap ∧ l.length ≤ cap ∧ cap ≤ maxLen ∧ ∀ j, (hj : j < l.length) → ∃ g off, ao = some ⟨g, off, none⟩ ∧ ∀ i y, (l[j].cells)[i]? = some y → w.cell? ⟨g, off + j * 8 + i, none⟩ = some y
theorem RdZos.mono {w w' : World} {u : Value} {l : List Zo} (h : RdZos w u l) (hb : Below w.heap.size w w') : RdZos w' u l := by
  obtain ⟨ao, cap, h1, h2, h3, h4⟩ := h
  refine ⟨ao, cap, h1, h2, h3, fun j hj => ?_⟩
  obtain ⟨g, off, h5, h6⟩ := h4 j hj
  exact ⟨g, off, h5, fun i y hy => (hb.cell (World.block_lt_of_cell? w _ (h6 i y hy))).trans (h6 i y hy)⟩
theorem RdZos.nil (w : World) : RdZos w (.slice none 0 0) [] := ⟨none, 0, rfl, Nat.le_refl _, by simp [maxLen], fun j hj => by simp at hj⟩
theorem RdZos.shape {w : World} {u : Value} {l : List Zo} (h : RdZos w u l) : ∃ a cap, u = .slice a l.length cap ∧ l.length ≤ cap ∧ cap ≤ maxLen := by
  obtain ⟨a, cap, h1, h2, h3, _⟩ := h
  exact ⟨a, cap, h1, h2, h3⟩
theorem RdZos.plain {w : World} {ao : Option Addr} {N cap : Nat} {l : List Zo} (h : RdZos w (.slice ao N cap) l) : N = l.length ∧ N ≤ cap ∧ cap ≤ maxLen ∧ ∀ j, (hj : j < l.length) → ∃ g off, ao = some ⟨g, off, none⟩ ∧
    w.cell? ⟨g, off + j * 8, none⟩ = some (.int .u8 l[j].a.k) ∧ w.cell? ⟨g, off + j * 8 + 1, none⟩ = some (.int .i64 l[j].a.n) ∧ w.cell? ⟨g, off + j * 8 + 2, none⟩ = some (.string ⟨l[j].a.s.toArray⟩) ∧
    w.cell? ⟨g, off + j * 8 + 3, none⟩ = some (.int .u8 l[j].b.k) ∧ w.cell? ⟨g, off + j * 8 + 4, none⟩ = some (.int .i64 l[j].b.n) ∧ w.cell? ⟨g, off + j * 8 + 5, none⟩ = some (.string ⟨l[j].b.s.toArray⟩) ∧
    w.cell? ⟨g, off + j * 8 + 6, none⟩ = some (.int .i64 l[j].n) ∧ w.cell? ⟨g, off + j * 8 + 7, none⟩ = some (.int .i64 l[j].m) := by
  obtain ⟨a', cap', h1, h2, h3, h4⟩ := h
  simp only [Value.slice.injEq] at h1
  obtain ⟨rfl, rfl, rfl⟩ := h1
  refine ⟨rfl, h2, h3, fun j hj => ?_⟩
  obtain ⟨g, off, e, hc⟩ := h4 j hj
  exact ⟨g, off, e, hc 0 _ rfl, hc 1 _ rfl, hc 2 _ rfl, hc 3 _ rfl, hc 4 _ rfl, hc 5 _ rfl, hc 6 _ rfl, hc 7 _ rfl⟩
def FitZ (l : List Zo) : Prop := ∀ z ∈ l, z.fits ∧ z.small 5000
theorem onlyP_cell {g : Nat} {W W' : World} (h : OnlyP g W W') {b i : Nat} {u : Value} (hc : W.cell? ⟨b, i, none⟩ = some u) (hb : b ≠ g) : W'.cell? ⟨b, i, none⟩ = some u :=
  (OnlyS.of_onlyP (X := fun b => b = g) h rfl).cell hc hb
theorem onlyP_3 (g : Nat) (W : World) (a b c : Value) : OnlyP g W (((W.setCell ⟨g, 0, none⟩ a).setCell ⟨g, 1, none⟩ b).setCell ⟨g, 2, none⟩ c) := OnlyP.trans (OnlyP.trans (OnlyP.set g 0 _ _) (OnlyP.set g 1 _ _)) (OnlyP.set g 2 _ _)
theorem ext_set3 {N g : Nat} {w W : World} (h : Below N w W) (hg : N ≤ g) (a b c : Value) : Below N w (((W.setCell ⟨g, 0, none⟩ a).setCell ⟨g, 1, none⟩ b).setCell ⟨g, 2, none⟩ c) := Below.setCell (Below.setCell (Below.setCell h hg _) hg _) hg _
theorem blk_set3 {W : World} {g : Nat} {x y z : Value} {t : TypeId} (h : Blk W g [x, y, z] t) (a b c : Value) : Blk (((W.setCell ⟨g, 0, none⟩ a).setCell ⟨g, 1, none⟩ b).setCell ⟨g, 2, none⟩ c) g [a, b, c] t := ((h.set 0 a).set 1 b).set 2 c

set_option maxRecDepth 100000 in
set_option maxHeartbeats 8000000 in
theorem pOfZones_any (n : Nd) (u : Value) (zs : List Zo) (w : World) (hT : Tabs w) (hn : n.v.fits ∧ n.v.s.length ≤ 5000) (hu : RdZos w u zs) (hz : FitZ zs) (hc : 5 ≤ n.op → n.op ≤ 8 → 0 ≤ n.col ∧ n.col < zs.length) :
    Calls Tryz.prog 23 #[n.val, u] w fun e w' => e = .returned (tripV (leafZ zs n)) ∧ Ext w w' := by
  obtain ⟨ao, cap, rfl, h1, h2⟩ := hu.shape
  obtain ⟨-, -, -, hcz⟩ := hu.plain
  unfold maxLen at h2
  have HCZ := Lib.hid hcz
  have HZ := Lib.hid hz
  have HL := Lib.hid (show leafZ zs n = if n.op = 5 then equalZ (zoneC zs n) n.v else if n.op = 6 then lessZ (zoneC zs n) n.v else if n.op = 7 then likeZ (zoneC zs n) n.v.s else if n.op = 8 then nullZ (zoneC zs n) else (false, false, true) from rfl)
  rw [HL.out]
  have HEQ := Lib.hid (fun z hz W => pEqualZ_any z n.v W (HZ.out z hz).1 hn.1 (HZ.out z hz).2 hn.2)
  have HLE := Lib.hid (fun z hz W => pLessZ_any z n.v W (HZ.out z hz).1 hn.1 (HZ.out z hz).2 hn.2)
  have HLI := Lib.hid (fun z W (h : Ext w W) => pMayBeLike_any z n.v.s W (hT.mono h) hn.2)
  have HZC := Lib.hid (show ∀ j : Nat, n.col = (j : Int) → ∀ h : j < zs.length, zoneC zs n = zs[j] from fun j e h => by unfold zoneC; rw [e, Int.toNat_natCast, List.getElem?_eq_getElem h]; rfl)
  obtain ⟨o, c, kd, ⟨vk, vn, vs⟩⟩ := n
  simp only at hc HEQ HLE HLI HZC ⊢
  unfold Nd.val
  unfold V.val at HEQ HLE
  simp only at HEQ HLE ⊢
  have HCC := Lib.hid hc
  obtain ⟨N, hN⟩ : ∃ N, zs.length = N := ⟨_, rfl⟩
  have HN := Lib.hid hN
  rw [hN] at h1 ⊢
  have HBN := Lib.hid (Blk.ext (Blk.new w [.int .u8 o, .int .i64 c, .int .i64 kd, .int .u8 vk, .int .i64 vn, .string ⟨vs.toArray⟩] 38) (ext_new _ (.cells #[.bool false, .bool false, .bool false] 32)))
  have HBR := Lib.hid (show Blk ((w.alloc (.cells #[.int .u8 o, .int .i64 c, .int .i64 kd, .int .u8 vk, .int .i64 vn, .string ⟨vs.toArray⟩] 38)).alloc (.cells #[.bool false, .bool false, .bool false] 32)) (w.heap.size + 1) [.bool false, .bool false, .bool false] 32 from by
    have h := Blk.new (w.alloc (.cells #[.int .u8 o, .int .i64 c, .int .i64 kd, .int .u8 vk, .int .i64 vn, .string ⟨vs.toArray⟩] 38)) [.bool false, .bool false, .bool false] 32
    simp only [World.alloc, Array.size_push] at h
    exact h)
  have HXA := Lib.hid (Ext.trans (ext_new w (.cells #[.int .u8 o, .int .i64 c, .int .i64 kd, .int .u8 vk, .int .i64 vn, .string ⟨vs.toArray⟩] 38)) (ext_new _ (.cells #[.bool false, .bool false, .bool false] 32)))
  clear hu hcz hz hN hc hn HL hT
  by_cases h5 : o = 5
  · subst h5
    rw [if_pos rfl]
    obtain ⟨hc0, hc1⟩ := HCC.out (by decide) (by decide)
    obtain ⟨j, rfl⟩ := Int.eq_ofNat_of_zero_le hc0
    have hjz : j < zs.length := by omega
    have hjN : j < N := by have := HN.out; omega
    obtain ⟨gz, off, rfl, d0, d1, d2, d3, d4, d5, d6, d7⟩ := HCZ.out j hjz
    have HZJ := Lib.hid (HZC.out j rfl hjz)
    have HMZ := Lib.hid (List.getElem_mem hjz)
    rw [HZJ.out]
    clear HZJ HZC
    generalize zs[j] = z at d0 d1 d2 d3 d4 d5 d6 d7 HMZ ⊢
    have HCA := Lib.hid (HEQ.out _ HMZ.out)
    obtain ⟨⟨zak, zan, zas⟩, ⟨zbk, zbn, zbs⟩, zn, zm⟩ := z
    unfold Zo.val at HCA
    simp only at d0 d1 d2 d3 d4 d5 d6 d7 HCA
    generalize equalZ ⟨⟨zak, zan, zas⟩, ⟨zbk, zbn, zbs⟩, zn, zm⟩ ⟨vk, vn, vs⟩ = R3 at HCA ⊢
    obtain ⟨b1, b2, b3⟩ := R3
    unfold tripV at HCA
    simp only at HCA
    have hgz : gz ≠ w.heap.size + 1 := by have := lt_of_cell d0; simp only at this; omega
    have HD0 := Lib.hid ((HXA.out.cell (lt_of_cell d0)).trans d0)
    have HD1 := Lib.hid ((HXA.out.cell (lt_of_cell d1)).trans d1)
    have HD2 := Lib.hid ((HXA.out.cell (lt_of_cell d2)).trans d2)
    have HD3 := Lib.hid ((HXA.out.cell (lt_of_cell d3)).trans d3)
    have HD4 := Lib.hid ((HXA.out.cell (lt_of_cell d4)).trans d4)
    have HD5 := Lib.hid ((HXA.out.cell (lt_of_cell d5)).trans d5)
    have HD6 := Lib.hid ((HXA.out.cell (lt_of_cell d6)).trans d6)
    have HD7 := Lib.hid ((HXA.out.cell (lt_of_cell d7)).trans d7)
    clear d0 d1 d2 d3 d4 d5 d6 d7 hc0 hc1 hjz HCZ
    go_enter Tryz.func23, Tryz.ntmps23
    go_upto_region 3 with fail
    generalize (w.alloc (.cells #[.int .u8 5, .int .i64 (j : Int), .int .i64 kd, .int .u8 vk, .int .i64 vn, .string ⟨vs.toArray⟩] 38)).alloc (.cells #[.bool false, .bool false, .bool false] 32) = WA at HBN HBR HXA HD0 HD1 HD2 HD3 HD4 HD5 HD6 HD7 ⊢
    refine wp_region_segs (OnlyP (w.heap.size + 1)) (OnlyP.keeps _) [([0, 1, 2, 3, 4, 5, 6], some 7), ([], some 8)] (by kernel_rfl) (by kernel_rfl) (fun c a a' w e h => (by exact ⟨e ▸ h.1, h.2⟩)) ?_
    simp only [pickSegs, pickOps, List.map_cons, List.map_nil, Option.map_some, Option.getD_some, List.getElem?_toArray, List.getElem?_cons_zero, List.getElem?_cons_succ]
    have a0 : ∀ z : Later (OnlyP (w.heap.size + 1)) WA.drew, z.val.cell? ⟨w.heap.size, 0, none⟩ = some (.int .u8 5) := fun z => onlyP_cell (OnlyP.trans (OnlyP.of_ext (Ext.drew WA)) z.2) (HBN.out.cell 0 _ rfl) (by omega)
    have a1 : ∀ z : Later (OnlyP (w.heap.size + 1)) WA.drew, z.val.cell? ⟨w.heap.size, 1, none⟩ = some (.int .i64 (j : Int)) := fun z => onlyP_cell (OnlyP.trans (OnlyP.of_ext (Ext.drew WA)) z.2) (HBN.out.cell 1 _ rfl) (by omega)
    have a2 : ∀ z : Later (OnlyP (w.heap.size + 1)) WA.drew, z.val.cell? ⟨w.heap.size, 2, none⟩ = some (.int .i64 kd) := fun z => onlyP_cell (OnlyP.trans (OnlyP.of_ext (Ext.drew WA)) z.2) (HBN.out.cell 2 _ rfl) (by omega)
    have a3 : ∀ z : Later (OnlyP (w.heap.size + 1)) WA.drew, z.val.cell? ⟨w.heap.size, 3, none⟩ = some (.int .u8 vk) := fun z => onlyP_cell (OnlyP.trans (OnlyP.of_ext (Ext.drew WA)) z.2) (HBN.out.cell 3 _ rfl) (by omega)
    have a4 : ∀ z : Later (OnlyP (w.heap.size + 1)) WA.drew, z.val.cell? ⟨w.heap.size, 4, none⟩ = some (.int .i64 vn) := fun z => onlyP_cell (OnlyP.trans (OnlyP.of_ext (Ext.drew WA)) z.2) (HBN.out.cell 4 _ rfl) (by omega)
    have a5 : ∀ z : Later (OnlyP (w.heap.size + 1)) WA.drew, z.val.cell? ⟨w.heap.size, 5, none⟩ = some (.string ⟨vs.toArray⟩) := fun z => onlyP_cell (OnlyP.trans (OnlyP.of_ext (Ext.drew WA)) z.2) (HBN.out.cell 5 _ rfl) (by omega)
    have z0 : ∀ z : Later (OnlyP (w.heap.size + 1)) WA.drew, z.val.cell? ⟨gz, off + j * 8, none⟩ = some (.int .u8 zak) := fun z => onlyP_cell (OnlyP.trans (OnlyP.of_ext (Ext.drew WA)) z.2) HD0.out hgz
    have z1 : ∀ z : Later (OnlyP (w.heap.size + 1)) WA.drew, z.val.cell? ⟨gz, off + j * 8 + 1, none⟩ = some (.int .i64 zan) := fun z => onlyP_cell (OnlyP.trans (OnlyP.of_ext (Ext.drew WA)) z.2) HD1.out hgz
    have z2 : ∀ z : Later (OnlyP (w.heap.size + 1)) WA.drew, z.val.cell? ⟨gz, off + j * 8 + 2, none⟩ = some (.string ⟨zas.toArray⟩) := fun z => onlyP_cell (OnlyP.trans (OnlyP.of_ext (Ext.drew WA)) z.2) HD2.out hgz
    have z3 : ∀ z : Later (OnlyP (w.heap.size + 1)) WA.drew, z.val.cell? ⟨gz, off + j * 8 + 3, none⟩ = some (.int .u8 zbk) := fun z => onlyP_cell (OnlyP.trans (OnlyP.of_ext (Ext.drew WA)) z.2) HD3.out hgz
    have z4 : ∀ z : Later (OnlyP (w.heap.size + 1)) WA.drew, z.val.cell? ⟨gz, off + j * 8 + 4, none⟩ = some (.int .i64 zbn) := fun z => onlyP_cell (OnlyP.trans (OnlyP.of_ext (Ext.drew WA)) z.2) HD4.out hgz
    have z5 : ∀ z : Later (OnlyP (w.heap.size + 1)) WA.drew, z.val.cell? ⟨gz, off + j * 8 + 5, none⟩ = some (.string ⟨zbs.toArray⟩) := fun z => onlyP_cell (OnlyP.trans (OnlyP.of_ext (Ext.drew WA)) z.2) HD5.out hgz
    have z6 : ∀ z : Later (OnlyP (w.heap.size + 1)) WA.drew, z.val.cell? ⟨gz, off + j * 8 + 6, none⟩ = some (.int .i64 zn) := fun z => onlyP_cell (OnlyP.trans (OnlyP.of_ext (Ext.drew WA)) z.2) HD6.out hgz
    have z7 : ∀ z : Later (OnlyP (w.heap.size + 1)) WA.drew, z.val.cell? ⟨gz, off + j * 8 + 7, none⟩ = some (.int .i64 zm) := fun z => onlyP_cell (OnlyP.trans (OnlyP.of_ext (Ext.drew WA)) z.2) HD7.out hgz
    have hgz' := Lib.hid hgz
    clear hgz
    refine wpSegs_some fun K hK => ?_
    repeat go_big_quiet_step (fail)
    refine wpQuiet_nil ?_
    clear a0 a1 a2 a3 a4 a5 z0 z1 z2 z3 z4 z5 z6 z7
    go_wp2_with fail
    refine (HCA.out _).mono ?_
    rintro e W1 ⟨rfl, hx⟩
    have HX1 := Lib.hid (Ext.trans HXA.out (Ext.trans (Ext.drew WA) hx))
    have HBR1 := Lib.hid ((HBR.out.ext (Ext.drew WA)).ext hx)
    have HXX := Lib.hid hx
    clear hx
    go_wp2_with fail
    refine ⟨OnlyP.of_ext HXX.out, hK _ _ ?_⟩
    clear hK K
    refine wpSegs_some fun K hK => ?_
    refine wpQuiet_nil ?_
    have r0 : W1.cell? ⟨w.heap.size + 1, 0, none⟩ = some (.bool false) := HBR1.out.cell 0 _ rfl
    have f0 : W1.frozen? ⟨w.heap.size + 1, 0, none⟩ = false := HBR1.out.free 0
    have r1 : W1.cell? ⟨w.heap.size + 1, 1, none⟩ = some (.bool false) := HBR1.out.cell 1 _ rfl
    have f1 : W1.frozen? ⟨w.heap.size + 1, 1, none⟩ = false := HBR1.out.free 1
    have r2 : W1.cell? ⟨w.heap.size + 1, 2, none⟩ = some (.bool false) := HBR1.out.cell 2 _ rfl
    have f2 : W1.frozen? ⟨w.heap.size + 1, 2, none⟩ = false := HBR1.out.free 2
    go_wp2_with fail
    refine ⟨onlyP_3 _ _ _ _ _, hK _ _ ?_⟩
    clear hK K
    refine wpSegs_nil ?_
    go_wp2_with fail
    refine bodyPost_ret (results_cell_row (P := Tryz.prog) (fn := Tryz.f23) rfl _ _ (w.heap.size + 1) 32 _ (0, 0) _ rfl (blk_set3 HBR1.out _ _ _) Tryz.underlying32 rfl (by kernel_rfl)) rfl ?_
    exact ⟨rfl, ext_set3 HX1.out (by show w.heap.size ≤ w.heap.size + 1; omega) _ _ _⟩
  · rw [if_neg h5]
    have q5 : (o == (5 : Int)) = false := beq_eq_false_iff_ne.2 h5
    clear h5
    by_cases h6 : o = 6
    · subst h6
      rw [if_pos rfl]
      obtain ⟨hc0, hc1⟩ := HCC.out (by decide) (by decide)
      obtain ⟨j, rfl⟩ := Int.eq_ofNat_of_zero_le hc0
      have hjz : j < zs.length := by omega
      have hjN : j < N := by have := HN.out; omega
      obtain ⟨gz, off, rfl, d0, d1, d2, d3, d4, d5, d6, d7⟩ := HCZ.out j hjz
      have HZJ := Lib.hid (HZC.out j rfl hjz)
      have HMZ := Lib.hid (List.getElem_mem hjz)
      rw [HZJ.out]
      clear HZJ HZC
      generalize zs[j] = z at d0 d1 d2 d3 d4 d5 d6 d7 HMZ ⊢
      have HCA := Lib.hid (HLE.out _ HMZ.out)
      obtain ⟨⟨zak, zan, zas⟩, ⟨zbk, zbn, zbs⟩, zn, zm⟩ := z
      unfold Zo.val at HCA
      simp only at d0 d1 d2 d3 d4 d5 d6 d7 HCA
      generalize lessZ ⟨⟨zak, zan, zas⟩, ⟨zbk, zbn, zbs⟩, zn, zm⟩ ⟨vk, vn, vs⟩ = R3 at HCA ⊢
      obtain ⟨b1, b2, b3⟩ := R3
      unfold tripV at HCA
      simp only at HCA
      have hgz : gz ≠ w.heap.size + 1 := by have := lt_of_cell d0; simp only at this; omega
      have HD0 := Lib.hid ((HXA.out.cell (lt_of_cell d0)).trans d0)
      have HD1 := Lib.hid ((HXA.out.cell (lt_of_cell d1)).trans d1)
      have HD2 := Lib.hid ((HXA.out.cell (lt_of_cell d2)).trans d2)
      have HD3 := Lib.hid ((HXA.out.cell (lt_of_cell d3)).trans d3)
      have HD4 := Lib.hid ((HXA.out.cell (lt_of_cell d4)).trans d4)
      have HD5 := Lib.hid ((HXA.out.cell (lt_of_cell d5)).trans d5)
      have HD6 := Lib.hid ((HXA.out.cell (lt_of_cell d6)).trans d6)
      have HD7 := Lib.hid ((HXA.out.cell (lt_of_cell d7)).trans d7)
      clear d0 d1 d2 d3 d4 d5 d6 d7 hc0 hc1 hjz HCZ
      go_enter Tryz.func23, Tryz.ntmps23
      go_upto_region 5 with fail
      generalize (w.alloc (.cells #[.int .u8 6, .int .i64 (j : Int), .int .i64 kd, .int .u8 vk, .int .i64 vn, .string ⟨vs.toArray⟩] 38)).alloc (.cells #[.bool false, .bool false, .bool false] 32) = WA at HBN HBR HXA HD0 HD1 HD2 HD3 HD4 HD5 HD6 HD7 ⊢
      refine wp_region_segs (OnlyP (w.heap.size + 1)) (OnlyP.keeps _) [([0, 1, 2, 3, 4, 5, 6], some 7), ([], some 8)] (by kernel_rfl) (by kernel_rfl) (fun c a a' w e h => (by exact ⟨e ▸ h.1, h.2⟩)) ?_
      simp only [pickSegs, pickOps, List.map_cons, List.map_nil, Option.map_some, Option.getD_some, List.getElem?_toArray, List.getElem?_cons_zero, List.getElem?_cons_succ]
      have a0 : ∀ z : Later (OnlyP (w.heap.size + 1)) WA.drew, z.val.cell? ⟨w.heap.size, 0, none⟩ = some (.int .u8 6) := fun z => onlyP_cell (OnlyP.trans (OnlyP.of_ext (Ext.drew WA)) z.2) (HBN.out.cell 0 _ rfl) (by omega)
      have a1 : ∀ z : Later (OnlyP (w.heap.size + 1)) WA.drew, z.val.cell? ⟨w.heap.size, 1, none⟩ = some (.int .i64 (j : Int)) := fun z => onlyP_cell (OnlyP.trans (OnlyP.of_ext (Ext.drew WA)) z.2) (HBN.out.cell 1 _ rfl) (by omega)
      have a2 : ∀ z : Later (OnlyP (w.heap.size + 1)) WA.drew, z.val.cell? ⟨w.heap.size, 2, none⟩ = some (.int .i64 kd) := fun z => onlyP_cell (OnlyP.trans (OnlyP.of_ext (Ext.drew WA)) z.2) (HBN.out.cell 2 _ rfl) (by omega)
      have a3 : ∀ z : Later (OnlyP (w.heap.size + 1)) WA.drew, z.val.cell? ⟨w.heap.size, 3, none⟩ = some (.int .u8 vk) := fun z => onlyP_cell (OnlyP.trans (OnlyP.of_ext (Ext.drew WA)) z.2) (HBN.out.cell 3 _ rfl) (by omega)
      have a4 : ∀ z : Later (OnlyP (w.heap.size + 1)) WA.drew, z.val.cell? ⟨w.heap.size, 4, none⟩ = some (.int .i64 vn) := fun z => onlyP_cell (OnlyP.trans (OnlyP.of_ext (Ext.drew WA)) z.2) (HBN.out.cell 4 _ rfl) (by omega)
      have a5 : ∀ z : Later (OnlyP (w.heap.size + 1)) WA.drew, z.val.cell? ⟨w.heap.size, 5, none⟩ = some (.string ⟨vs.toArray⟩) := fun z => onlyP_cell (OnlyP.trans (OnlyP.of_ext (Ext.drew WA)) z.2) (HBN.out.cell 5 _ rfl) (by omega)
      have z0 : ∀ z : Later (OnlyP (w.heap.size + 1)) WA.drew, z.val.cell? ⟨gz, off + j * 8, none⟩ = some (.int .u8 zak) := fun z => onlyP_cell (OnlyP.trans (OnlyP.of_ext (Ext.drew WA)) z.2) HD0.out hgz
      have z1 : ∀ z : Later (OnlyP (w.heap.size + 1)) WA.drew, z.val.cell? ⟨gz, off + j * 8 + 1, none⟩ = some (.int .i64 zan) := fun z => onlyP_cell (OnlyP.trans (OnlyP.of_ext (Ext.drew WA)) z.2) HD1.out hgz
      have z2 : ∀ z : Later (OnlyP (w.heap.size + 1)) WA.drew, z.val.cell? ⟨gz, off + j * 8 + 2, none⟩ = some (.string ⟨zas.toArray⟩) := fun z => onlyP_cell (OnlyP.trans (OnlyP.of_ext (Ext.drew WA)) z.2) HD2.out hgz
      have z3 : ∀ z : Later (OnlyP (w.heap.size + 1)) WA.drew, z.val.cell? ⟨gz, off + j * 8 + 3, none⟩ = some (.int .u8 zbk) := fun z => onlyP_cell (OnlyP.trans (OnlyP.of_ext (Ext.drew WA)) z.2) HD3.out hgz
      have z4 : ∀ z : Later (OnlyP (w.heap.size + 1)) WA.drew, z.val.cell? ⟨gz, off + j * 8 + 4, none⟩ = some (.int .i64 zbn) := fun z => onlyP_cell (OnlyP.trans (OnlyP.of_ext (Ext.drew WA)) z.2) HD4.out hgz
      have z5 : ∀ z : Later (OnlyP (w.heap.size + 1)) WA.drew, z.val.cell? ⟨gz, off + j * 8 + 5, none⟩ = some (.string ⟨zbs.toArray⟩) := fun z => onlyP_cell (OnlyP.trans (OnlyP.of_ext (Ext.drew WA)) z.2) HD5.out hgz
      have z6 : ∀ z : Later (OnlyP (w.heap.size + 1)) WA.drew, z.val.cell? ⟨gz, off + j * 8 + 6, none⟩ = some (.int .i64 zn) := fun z => onlyP_cell (OnlyP.trans (OnlyP.of_ext (Ext.drew WA)) z.2) HD6.out hgz
      have z7 : ∀ z : Later (OnlyP (w.heap.size + 1)) WA.drew, z.val.cell? ⟨gz, off + j * 8 + 7, none⟩ = some (.int .i64 zm) := fun z => onlyP_cell (OnlyP.trans (OnlyP.of_ext (Ext.drew WA)) z.2) HD7.out hgz
      have hgz' := Lib.hid hgz
      clear hgz
      refine wpSegs_some fun K hK => ?_
      repeat go_big_quiet_step (fail)
      refine wpQuiet_nil ?_
      clear a0 a1 a2 a3 a4 a5 z0 z1 z2 z3 z4 z5 z6 z7
      go_wp2_with fail
      refine (HCA.out _).mono ?_
      rintro e W1 ⟨rfl, hx⟩
      have HX1 := Lib.hid (Ext.trans HXA.out (Ext.trans (Ext.drew WA) hx))
      have HBR1 := Lib.hid ((HBR.out.ext (Ext.drew WA)).ext hx)
      have HXX := Lib.hid hx
      clear hx
      go_wp2_with fail
      refine ⟨OnlyP.of_ext HXX.out, hK _ _ ?_⟩
      clear hK K
      refine wpSegs_some fun K hK => ?_
      refine wpQuiet_nil ?_
      have r0 : W1.cell? ⟨w.heap.size + 1, 0, none⟩ = some (.bool false) := HBR1.out.cell 0 _ rfl
      have f0 : W1.frozen? ⟨w.heap.size + 1, 0, none⟩ = false := HBR1.out.free 0
      have r1 : W1.cell? ⟨w.heap.size + 1, 1, none⟩ = some (.bool false) := HBR1.out.cell 1 _ rfl
      have f1 : W1.frozen? ⟨w.heap.size + 1, 1, none⟩ = false := HBR1.out.free 1
      have r2 : W1.cell? ⟨w.heap.size + 1, 2, none⟩ = some (.bool false) := HBR1.out.cell 2 _ rfl
      have f2 : W1.frozen? ⟨w.heap.size + 1, 2, none⟩ = false := HBR1.out.free 2
      go_wp2_with fail
      refine ⟨onlyP_3 _ _ _ _ _, hK _ _ ?_⟩
      clear hK K
      refine wpSegs_nil ?_
      go_wp2_with fail
      refine bodyPost_ret (results_cell_row (P := Tryz.prog) (fn := Tryz.f23) rfl _ _ (w.heap.size + 1) 32 _ (0, 0) _ rfl (blk_set3 HBR1.out _ _ _) Tryz.underlying32 rfl (by kernel_rfl)) rfl ?_
      exact ⟨rfl, ext_set3 HX1.out (by show w.heap.size ≤ w.heap.size + 1; omega) _ _ _⟩
    · rw [if_neg h6]
      have q6 : (o == (6 : Int)) = false := beq_eq_false_iff_ne.2 h6
      clear h6
      by_cases h7 : o = 7
      · subst h7
        rw [if_pos rfl]
        obtain ⟨hc0, hc1⟩ := HCC.out (by decide) (by decide)
        obtain ⟨j, rfl⟩ := Int.eq_ofNat_of_zero_le hc0
        have hjz : j < zs.length := by omega
        have hjN : j < N := by have := HN.out; omega
        obtain ⟨gz, off, rfl, d0, d1, d2, d3, d4, d5, d6, d7⟩ := HCZ.out j hjz
        have HZJ := Lib.hid (HZC.out j rfl hjz)
        have HMZ := Lib.hid (List.getElem_mem hjz)
        rw [HZJ.out]
        clear HZJ HZC
        generalize zs[j] = z at d0 d1 d2 d3 d4 d5 d6 d7 HMZ ⊢
        have HCA := Lib.hid (HLI.out z)
        obtain ⟨⟨zak, zan, zas⟩, ⟨zbk, zbn, zbs⟩, zn, zm⟩ := z
        unfold Zo.val at HCA
        simp only at d0 d1 d2 d3 d4 d5 d6 d7 HCA
        generalize likeZ ⟨⟨zak, zan, zas⟩, ⟨zbk, zbn, zbs⟩, zn, zm⟩ vs = R3 at HCA ⊢
        obtain ⟨b1, b2, b3⟩ := R3
        unfold tripV at HCA
        simp only at HCA
        have hgz : gz ≠ w.heap.size + 1 := by have := lt_of_cell d0; simp only at this; omega
        have HD0 := Lib.hid ((HXA.out.cell (lt_of_cell d0)).trans d0)
        have HD1 := Lib.hid ((HXA.out.cell (lt_of_cell d1)).trans d1)
        have HD2 := Lib.hid ((HXA.out.cell (lt_of_cell d2)).trans d2)
        have HD3 := Lib.hid ((HXA.out.cell (lt_of_cell d3)).trans d3)
        have HD4 := Lib.hid ((HXA.out.cell (lt_of_cell d4)).trans d4)
        have HD5 := Lib.hid ((HXA.out.cell (lt_of_cell d5)).trans d5)
        have HD6 := Lib.hid ((HXA.out.cell (lt_of_cell d6)).trans d6)
        have HD7 := Lib.hid ((HXA.out.cell (lt_of_cell d7)).trans d7)
        clear d0 d1 d2 d3 d4 d5 d6 d7 hc0 hc1 hjz HCZ
        go_enter Tryz.func23, Tryz.ntmps23
        go_upto_region 7 with fail
        generalize (w.alloc (.cells #[.int .u8 7, .int .i64 (j : Int), .int .i64 kd, .int .u8 vk, .int .i64 vn, .string ⟨vs.toArray⟩] 38)).alloc (.cells #[.bool false, .bool false, .bool false] 32) = WA at HBN HBR HXA HD0 HD1 HD2 HD3 HD4 HD5 HD6 HD7 ⊢
        refine wp_region_segs (OnlyP (w.heap.size + 1)) (OnlyP.keeps _) [([0, 1, 2, 3, 4, 5, 6, 7], some 8), ([], some 9)] (by kernel_rfl) (by kernel_rfl) (fun c a a' w e h => (by exact ⟨e ▸ h.1, h.2⟩)) ?_
        simp only [pickSegs, pickOps, List.map_cons, List.map_nil, Option.map_some, Option.getD_some, List.getElem?_toArray, List.getElem?_cons_zero, List.getElem?_cons_succ]
        have a0 : ∀ z : Later (OnlyP (w.heap.size + 1)) WA.drew, z.val.cell? ⟨w.heap.size, 0, none⟩ = some (.int .u8 7) := fun z => onlyP_cell (OnlyP.trans (OnlyP.of_ext (Ext.drew WA)) z.2) (HBN.out.cell 0 _ rfl) (by omega)
        have a1 : ∀ z : Later (OnlyP (w.heap.size + 1)) WA.drew, z.val.cell? ⟨w.heap.size, 1, none⟩ = some (.int .i64 (j : Int)) := fun z => onlyP_cell (OnlyP.trans (OnlyP.of_ext (Ext.drew WA)) z.2) (HBN.out.cell 1 _ rfl) (by omega)
        have a2 : ∀ z : Later (OnlyP (w.heap.size + 1)) WA.drew, z.val.cell? ⟨w.heap.size, 2, none⟩ = some (.int .i64 kd) := fun z => onlyP_cell (OnlyP.trans (OnlyP.of_ext (Ext.drew WA)) z.2) (HBN.out.cell 2 _ rfl) (by omega)
        have a3 : ∀ z : Later (OnlyP (w.heap.size + 1)) WA.drew, z.val.cell? ⟨w.heap.size, 3, none⟩ = some (.int .u8 vk) := fun z => onlyP_cell (OnlyP.trans (OnlyP.of_ext (Ext.drew WA)) z.2) (HBN.out.cell 3 _ rfl) (by omega)
        have a4 : ∀ z : Later (OnlyP (w.heap.size + 1)) WA.drew, z.val.cell? ⟨w.heap.size, 4, none⟩ = some (.int .i64 vn) := fun z => onlyP_cell (OnlyP.trans (OnlyP.of_ext (Ext.drew WA)) z.2) (HBN.out.cell 4 _ rfl) (by omega)
        have a5 : ∀ z : Later (OnlyP (w.heap.size + 1)) WA.drew, z.val.cell? ⟨w.heap.size, 5, none⟩ = some (.string ⟨vs.toArray⟩) := fun z => onlyP_cell (OnlyP.trans (OnlyP.of_ext (Ext.drew WA)) z.2) (HBN.out.cell 5 _ rfl) (by omega)
        have z0 : ∀ z : Later (OnlyP (w.heap.size + 1)) WA.drew, z.val.cell? ⟨gz, off + j * 8, none⟩ = some (.int .u8 zak) := fun z => onlyP_cell (OnlyP.trans (OnlyP.of_ext (Ext.drew WA)) z.2) HD0.out hgz
        have z1 : ∀ z : Later (OnlyP (w.heap.size + 1)) WA.drew, z.val.cell? ⟨gz, off + j * 8 + 1, none⟩ = some (.int .i64 zan) := fun z => onlyP_cell (OnlyP.trans (OnlyP.of_ext (Ext.drew WA)) z.2) HD1.out hgz
        have z2 : ∀ z : Later (OnlyP (w.heap.size + 1)) WA.drew, z.val.cell? ⟨gz, off + j * 8 + 2, none⟩ = some (.string ⟨zas.toArray⟩) := fun z => onlyP_cell (OnlyP.trans (OnlyP.of_ext (Ext.drew WA)) z.2) HD2.out hgz
        have z3 : ∀ z : Later (OnlyP (w.heap.size + 1)) WA.drew, z.val.cell? ⟨gz, off + j * 8 + 3, none⟩ = some (.int .u8 zbk) := fun z => onlyP_cell (OnlyP.trans (OnlyP.of_ext (Ext.drew WA)) z.2) HD3.out hgz
        have z4 : ∀ z : Later (OnlyP (w.heap.size + 1)) WA.drew, z.val.cell? ⟨gz, off + j * 8 + 4, none⟩ = some (.int .i64 zbn) := fun z => onlyP_cell (OnlyP.trans (OnlyP.of_ext (Ext.drew WA)) z.2) HD4.out hgz
        have z5 : ∀ z : Later (OnlyP (w.heap.size + 1)) WA.drew, z.val.cell? ⟨gz, off + j * 8 + 5, none⟩ = some (.string ⟨zbs.toArray⟩) := fun z => onlyP_cell (OnlyP.trans (OnlyP.of_ext (Ext.drew WA)) z.2) HD5.out hgz
        have z6 : ∀ z : Later (OnlyP (w.heap.size + 1)) WA.drew, z.val.cell? ⟨gz, off + j * 8 + 6, none⟩ = some (.int .i64 zn) := fun z => onlyP_cell (OnlyP.trans (OnlyP.of_ext (Ext.drew WA)) z.2) HD6.out hgz
        have z7 : ∀ z : Later (OnlyP (w.heap.size + 1)) WA.drew, z.val.cell? ⟨gz, off + j * 8 + 7, none⟩ = some (.int .i64 zm) := fun z => onlyP_cell (OnlyP.trans (OnlyP.of_ext (Ext.drew WA)) z.2) HD7.out hgz
        have hgz' := Lib.hid hgz
        clear hgz
        refine wpSegs_some fun K hK => ?_
        repeat go_big_quiet_step (fail)
        refine wpQuiet_nil ?_
        clear a0 a1 a2 a3 a4 a5 z0 z1 z2 z3 z4 z5 z6 z7
        go_wp2_with fail
        refine (HCA.out _ (Ext.trans HXA.out (Ext.drew WA))).mono ?_
        rintro e W1 ⟨rfl, hx⟩
        have HX1 := Lib.hid (Ext.trans HXA.out (Ext.trans (Ext.drew WA) hx))
        have HBR1 := Lib.hid ((HBR.out.ext (Ext.drew WA)).ext hx)
        have HXX := Lib.hid hx
        clear hx
        go_wp2_with fail
        refine ⟨OnlyP.of_ext HXX.out, hK _ _ ?_⟩
        clear hK K
        refine wpSegs_some fun K hK => ?_
        refine wpQuiet_nil ?_
        have r0 : W1.cell? ⟨w.heap.size + 1, 0, none⟩ = some (.bool false) := HBR1.out.cell 0 _ rfl
        have f0 : W1.frozen? ⟨w.heap.size + 1, 0, none⟩ = false := HBR1.out.free 0
        have r1 : W1.cell? ⟨w.heap.size + 1, 1, none⟩ = some (.bool false) := HBR1.out.cell 1 _ rfl
        have f1 : W1.frozen? ⟨w.heap.size + 1, 1, none⟩ = false := HBR1.out.free 1
        have r2 : W1.cell? ⟨w.heap.size + 1, 2, none⟩ = some (.bool false) := HBR1.out.cell 2 _ rfl
        have f2 : W1.frozen? ⟨w.heap.size + 1, 2, none⟩ = false := HBR1.out.free 2
        go_wp2_with fail
        refine ⟨onlyP_3 _ _ _ _ _, hK _ _ ?_⟩
        clear hK K
        refine wpSegs_nil ?_
        go_wp2_with fail
        refine bodyPost_ret (results_cell_row (P := Tryz.prog) (fn := Tryz.f23) rfl _ _ (w.heap.size + 1) 32 _ (0, 0) _ rfl (blk_set3 HBR1.out _ _ _) Tryz.underlying32 rfl (by kernel_rfl)) rfl ?_
        exact ⟨rfl, ext_set3 HX1.out (by show w.heap.size ≤ w.heap.size + 1; omega) _ _ _⟩
      · rw [if_neg h7]
        have q7 : (o == (7 : Int)) = false := beq_eq_false_iff_ne.2 h7
        clear h7
        by_cases h8 : o = 8
        · subst h8
          rw [if_pos rfl]
          obtain ⟨hc0, hc1⟩ := HCC.out (by decide) (by decide)
          obtain ⟨j, rfl⟩ := Int.eq_ofNat_of_zero_le hc0
          have hjz : j < zs.length := by omega
          have hjN : j < N := by have := HN.out; omega
          obtain ⟨gz, off, rfl, d0, d1, d2, d3, d4, d5, d6, d7⟩ := HCZ.out j hjz
          have HZJ := Lib.hid (HZC.out j rfl hjz)
          have HMZ := Lib.hid (List.getElem_mem hjz)
          rw [HZJ.out]
          clear HZJ HZC
          generalize zs[j] = z at d0 d1 d2 d3 d4 d5 d6 d7 HMZ ⊢
          have HCA := Lib.hid (fun W => pNullZ_any z W)
          obtain ⟨⟨zak, zan, zas⟩, ⟨zbk, zbn, zbs⟩, zn, zm⟩ := z
          unfold Zo.val at HCA
          simp only at d0 d1 d2 d3 d4 d5 d6 d7 HCA
          generalize nullZ ⟨⟨zak, zan, zas⟩, ⟨zbk, zbn, zbs⟩, zn, zm⟩ = R3 at HCA ⊢
          obtain ⟨b1, b2, b3⟩ := R3
          unfold tripV at HCA
          simp only at HCA
          have hgz : gz ≠ w.heap.size + 1 := by have := lt_of_cell d0; simp only at this; omega
          have HD0 := Lib.hid ((HXA.out.cell (lt_of_cell d0)).trans d0)
          have HD1 := Lib.hid ((HXA.out.cell (lt_of_cell d1)).trans d1)
          have HD2 := Lib.hid ((HXA.out.cell (lt_of_cell d2)).trans d2)
          have HD3 := Lib.hid ((HXA.out.cell (lt_of_cell d3)).trans d3)
          have HD4 := Lib.hid ((HXA.out.cell (lt_of_cell d4)).trans d4)
          have HD5 := Lib.hid ((HXA.out.cell (lt_of_cell d5)).trans d5)
          have HD6 := Lib.hid ((HXA.out.cell (lt_of_cell d6)).trans d6)
          have HD7 := Lib.hid ((HXA.out.cell (lt_of_cell d7)).trans d7)
          clear d0 d1 d2 d3 d4 d5 d6 d7 hc0 hc1 hjz HCZ
          go_enter Tryz.func23, Tryz.ntmps23
          go_upto_region 9 with fail
          generalize (w.alloc (.cells #[.int .u8 8, .int .i64 (j : Int), .int .i64 kd, .int .u8 vk, .int .i64 vn, .string ⟨vs.toArray⟩] 38)).alloc (.cells #[.bool false, .bool false, .bool false] 32) = WA at HBN HBR HXA HD0 HD1 HD2 HD3 HD4 HD5 HD6 HD7 ⊢
          have a0 : WA.cell? ⟨w.heap.size, 0, none⟩ = some (.int .u8 8) := HBN.out.cell 0 _ rfl
          have a1 : WA.cell? ⟨w.heap.size, 1, none⟩ = some (.int .i64 (j : Int)) := HBN.out.cell 1 _ rfl
          have a2 : WA.cell? ⟨w.heap.size, 2, none⟩ = some (.int .i64 kd) := HBN.out.cell 2 _ rfl
          have a3 : WA.cell? ⟨w.heap.size, 3, none⟩ = some (.int .u8 vk) := HBN.out.cell 3 _ rfl
          have a4 : WA.cell? ⟨w.heap.size, 4, none⟩ = some (.int .i64 vn) := HBN.out.cell 4 _ rfl
          have a5 : WA.cell? ⟨w.heap.size, 5, none⟩ = some (.string ⟨vs.toArray⟩) := HBN.out.cell 5 _ rfl
          have z0 := HD0.out
          have z1 := HD1.out
          have z2 := HD2.out
          have z3 := HD3.out
          have z4 := HD4.out
          have z5 := HD5.out
          have z6 := HD6.out
          have z7 := HD7.out
          go_wp2_with fail
          refine (HCA.out _).mono ?_
          rintro e W1 ⟨rfl, hx⟩
          have HX1 := Lib.hid (Ext.trans HXA.out hx)
          have HBR1 := Lib.hid (HBR.out.ext hx)
          clear hx a0 a1 a2 a3 a4 a5 z0 z1 z2 z3 z4 z5 z6 z7
          have r0 : W1.cell? ⟨w.heap.size + 1, 0, none⟩ = some (.bool false) := HBR1.out.cell 0 _ rfl
          have f0 : W1.frozen? ⟨w.heap.size + 1, 0, none⟩ = false := HBR1.out.free 0
          have r1 : W1.cell? ⟨w.heap.size + 1, 1, none⟩ = some (.bool false) := HBR1.out.cell 1 _ rfl
          have f1 : W1.frozen? ⟨w.heap.size + 1, 1, none⟩ = false := HBR1.out.free 1
          have r2 : W1.cell? ⟨w.heap.size + 1, 2, none⟩ = some (.bool false) := HBR1.out.cell 2 _ rfl
          have f2 : W1.frozen? ⟨w.heap.size + 1, 2, none⟩ = false := HBR1.out.free 2
          go_wp2_with fail
          refine bodyPost_ret (results_cell_row (P := Tryz.prog) (fn := Tryz.f23) rfl _ _ (w.heap.size + 1) 32 _ (0, 0) _ rfl (blk_set3 HBR1.out _ _ _) Tryz.underlying32 rfl (by kernel_rfl)) rfl ?_
          exact ⟨rfl, ext_set3 HX1.out (by show w.heap.size ≤ w.heap.size + 1; omega) _ _ _⟩
        · rw [if_neg h8]
          have q8 : (o == (8 : Int)) = false := beq_eq_false_iff_ne.2 h8
          clear h8
          go_enter Tryz.func23, Tryz.ntmps23
          go_upto_region 10 with fail
          generalize (w.alloc (.cells #[.int .u8 o, .int .i64 c, .int .i64 kd, .int .u8 vk, .int .i64 vn, .string ⟨vs.toArray⟩] 38)).alloc (.cells #[.bool false, .bool false, .bool false] 32) = WA at HBN HBR HXA ⊢
          have HBR1 := HBR
          have HX1 := HXA
          have r0 : WA.cell? ⟨w.heap.size + 1, 0, none⟩ = some (.bool false) := HBR1.out.cell 0 _ rfl
          have f0 : WA.frozen? ⟨w.heap.size + 1, 0, none⟩ = false := HBR1.out.free 0
          have r1 : WA.cell? ⟨w.heap.size + 1, 1, none⟩ = some (.bool false) := HBR1.out.cell 1 _ rfl
          have f1 : WA.frozen? ⟨w.heap.size + 1, 1, none⟩ = false := HBR1.out.free 1
          have r2 : WA.cell? ⟨w.heap.size + 1, 2, none⟩ = some (.bool false) := HBR1.out.cell 2 _ rfl
          have f2 : WA.frozen? ⟨w.heap.size + 1, 2, none⟩ = false := HBR1.out.free 2
          go_wp2_with fail
          refine bodyPost_ret (results_cell_row (P := Tryz.prog) (fn := Tryz.f23) rfl _ _ (w.heap.size + 1) 32 _ (0, 0) _ rfl (blk_set3 HBR1.out _ _ _) Tryz.underlying32 rfl (by kernel_rfl)) rfl ?_
          exact ⟨rfl, ext_set3 HX1.out (by show w.heap.size ≤ w.heap.size + 1; omega) _ _ _⟩

theorem enters_may2 : ∀ args w, (callFunc 22 args).run Tryz.prog w = .ok (.enter 22 args) w := enters_of Tryz.func22 (by kernel_rfl) rfl
theorem mayLeaf_any (n : Nd) (u : Value) (zs : List Zo) (kb : Nat) (w : World) (hkb : w.cell? ⟨kb, 0, none⟩ = some u) (hT : Tabs w) (hn : n.v.fits ∧ n.v.s.length ≤ 5000) (hu : RdZos w u zs) (hz : FitZ zs) (hc : 5 ≤ n.op → n.op ≤ 8 → 0 ≤ n.col ∧ n.col < zs.length) :
    Calls Tryz.prog 22 #[n.val, .pointer (some ⟨kb, 0, none⟩)] w fun e w' => e = .returned (tripV (leafZ zs n)) ∧ Ext w w' := by
  have HF := Lib.hid (fun W (h : Ext w W) => pOfZones_any n u zs W (hT.mono h) hn (hu.mono h) hz hc)
  obtain ⟨o, c, kd, ⟨vk, vn, vs⟩⟩ := n
  have HBR := Lib.hid (show Blk ((w.alloc (.cells #[.int .u8 o, .int .i64 c, .int .i64 kd, .int .u8 vk, .int .i64 vn, .string ⟨vs.toArray⟩] 38)).alloc (.cells #[.bool false, .bool false, .bool false] 32)) (w.heap.size + 1) [.bool false, .bool false, .bool false] 32 from by
    have h := Blk.new (w.alloc (.cells #[.int .u8 o, .int .i64 c, .int .i64 kd, .int .u8 vk, .int .i64 vn, .string ⟨vs.toArray⟩] 38)) [.bool false, .bool false, .bool false] 32
    simp only [World.alloc, Array.size_push] at h
    exact h)
  have HBN := Lib.hid (Blk.ext (Blk.new w [.int .u8 o, .int .i64 c, .int .i64 kd, .int .u8 vk, .int .i64 vn, .string ⟨vs.toArray⟩] 38) (ext_new _ (.cells #[.bool false, .bool false, .bool false] 32)))
  have HXA := Lib.hid (Ext.trans (ext_new w (.cells #[.int .u8 o, .int .i64 c, .int .i64 kd, .int .u8 vk, .int .i64 vn, .string ⟨vs.toArray⟩] 38)) (ext_new _ (.cells #[.bool false, .bool false, .bool false] 32)))
  have HKB := Lib.hid ((HXA.out.cell (lt_of_cell hkb)).trans hkb)
  obtain ⟨ao, cap, rfl, -, -⟩ := hu.shape
  generalize zs.length = N at *
  generalize leafZ zs ⟨o, c, kd, ⟨vk, vn, vs⟩⟩ = R at HF ⊢
  obtain ⟨b1, b2, b3⟩ := R
  unfold Nd.val at HF ⊢
  unfold tripV at HF
  simp only at HF ⊢
  clear hu hz hT hn hkb hc
  go_enter Tryz.func22, Tryz.ntmps22
  go_upto_region 1 with fail
  generalize (w.alloc (.cells #[.int .u8 o, .int .i64 c, .int .i64 kd, .int .u8 vk, .int .i64 vn, .string ⟨vs.toArray⟩] 38)).alloc (.cells #[.bool false, .bool false, .bool false] 32) = WA at HBN HBR HXA HKB ⊢
  have k0 := HKB.out
  have a0 : WA.cell? ⟨w.heap.size, 0, none⟩ = some (.int .u8 o) := HBN.out.cell 0 _ rfl
  have a1 : WA.cell? ⟨w.heap.size, 1, none⟩ = some (.int .i64 c) := HBN.out.cell 1 _ rfl
  have a2 : WA.cell? ⟨w.heap.size, 2, none⟩ = some (.int .i64 kd) := HBN.out.cell 2 _ rfl
  have a3 : WA.cell? ⟨w.heap.size, 3, none⟩ = some (.int .u8 vk) := HBN.out.cell 3 _ rfl
  have a4 : WA.cell? ⟨w.heap.size, 4, none⟩ = some (.int .i64 vn) := HBN.out.cell 4 _ rfl
  have a5 : WA.cell? ⟨w.heap.size, 5, none⟩ = some (.string ⟨vs.toArray⟩) := HBN.out.cell 5 _ rfl
  go_wp2_with fail
  refine (HF.out _ HXA.out).mono ?_
  rintro e W1 ⟨rfl, hx⟩
  have HX1 := Lib.hid (Ext.trans HXA.out hx)
  have HBR1 := Lib.hid (HBR.out.ext hx)
  clear hx k0 a0 a1 a2 a3 a4 a5
  have r0 : W1.cell? ⟨w.heap.size + 1, 0, none⟩ = some (.bool false) := HBR1.out.cell 0 _ rfl
  have f0 : W1.frozen? ⟨w.heap.size + 1, 0, none⟩ = false := HBR1.out.free 0
  have r1 : W1.cell? ⟨w.heap.size + 1, 1, none⟩ = some (.bool false) := HBR1.out.cell 1 _ rfl
  have f1 : W1.frozen? ⟨w.heap.size + 1, 1, none⟩ = false := HBR1.out.free 1
  have r2 : W1.cell? ⟨w.heap.size + 1, 2, none⟩ = some (.bool false) := HBR1.out.cell 2 _ rfl
  have f2 : W1.frozen? ⟨w.heap.size + 1, 2, none⟩ = false := HBR1.out.free 2
  go_wp2_with fail
  refine bodyPost_ret (results_cell_row (P := Tryz.prog) (fn := Tryz.f22) rfl _ _ (w.heap.size + 1) 32 _ (0, 0) _ rfl (blk_set3 HBR1.out _ _ _) Tryz.underlying32 rfl (by kernel_rfl)) rfl ?_
  exact ⟨rfl, ext_set3 HX1.out (by show w.heap.size ≤ w.heap.size + 1; omega) _ _ _⟩

end Go.Proofs.YtfnmcdjfdhdlmaaGreatDoor

/-
  The program's contracts of what may come of conditions: Not, And and Or of what may come.
-/
namespace Go.Proofs.YtfnmcdjfdhdlmaaGreatDoor
open Go.ChangeAt Go.RowKit Go.BigFrame

theorem Tryz.info_bool3 : (Tryz.prog.info? 4).map (fun i => (i.zero, i.size, i.bytes)) = some (some (.bool false), 1, 1) := by kernel_rfl
theorem index3 (a b c : Bool) (k : Nat) (hk : k < 3) (w : World) :
    (Instr.index 32 (.agg #[.bool a, .bool b, .bool c]) (.int .i64 k)).run Tryz.prog w = .ok (.bool (g3 (a, b, c) k)) w := by
  obtain ⟨i0, hi, hz0, hz1, hz2⟩ := info_parts Tryz.info_bool3
  have h3 : k = 0 ∨ k = 1 ∨ k = 2 := by omega
  rcases h3 with rfl | rfl | rfl <;> simp [Instr.index, run_underlying Tryz.underlying32, asIntOf, part, sizeOf, typeInfo, hi, hz1, go_sem, g3]
theorem not3 (j : Nat) (h : j < 3) : notT (j : Int) = ((2 - j : Nat) : Int) := by
  match j, h with
  | 0, _ => decide
  | 1, _ => decide
  | 2, _ => decide

set_option maxRecDepth 100000 in
set_option maxHeartbeats 4000000 in
theorem mayNot_any (a : T3) (w : World) : Calls Tryz.prog 25 #[tripV a] w fun e w' => e = .returned (tripV (notZ a)) ∧ Ext w w' := by
  have HQ := Lib.hid (accN_3 a)
  rw [← HQ.out]
  have HST := Lib.hid (show ∀ j, accN a (j + 1) = p3 (accN a j) (2 - j) (g3 a j) from fun _ => rfl)
  have HS0 := Lib.hid (show accN a 0 = (false, false, false) from rfl)
  have HIX := Lib.hid (fun k hk W => index3 a.1 a.2.1 a.2.2 k hk W)
  obtain ⟨x, y, z⟩ := a
  unfold tripV
  simp only at HIX ⊢
  generalize hN3 : accN (x, y, z) = ac at *
  have HBA := Lib.hid (((Blk.new w [.bool x, .bool y, .bool z] 32).ext (ext_new _ (.cells #[.bool false, .bool false, .bool false] 32))).ext (ext_new _ (.cells #[.bool false, .bool false, .bool false] 32)))
  have HBR := Lib.hid (blk_1 w (.cells #[.bool x, .bool y, .bool z] 32) (.cells #[.bool false, .bool false, .bool false] 32) [.bool false, .bool false, .bool false] 32)
  have HBM := Lib.hid (show Blk (((w.alloc (.cells #[.bool x, .bool y, .bool z] 32)).alloc (.cells #[.bool false, .bool false, .bool false] 32)).alloc (.cells #[.bool false, .bool false, .bool false] 32)) (w.heap.size + 1 + 1) (tL (false, false, false)) 32 from by
    have h := Blk.new ((w.alloc (.cells #[.bool x, .bool y, .bool z] 32)).alloc (.cells #[.bool false, .bool false, .bool false] 32)) [.bool false, .bool false, .bool false] 32
    simp only [World.alloc, Array.size_push] at h
    exact h)
  have HXA := Lib.hid (ext_3 w (.cells #[.bool x, .bool y, .bool z] 32) (.cells #[.bool false, .bool false, .bool false] 32) (.cells #[.bool false, .bool false, .bool false] 32))
  clear hN3
  go_enter Tryz.func25, Tryz.ntmps25
  go_upto_region 2 with fail
  generalize ((w.alloc (.cells #[.bool x, .bool y, .bool z] 32)).alloc (.cells #[.bool false, .bool false, .bool false] 32)).alloc (.cells #[.bool false, .bool false, .bool false] 32) = WA at HBA HBR HBM HXA ⊢
  have a0 := HBA.out.cell 0 _ rfl
  have a1 := HBA.out.cell 1 _ rfl
  have a2 := HBA.out.cell 2 _ rfl
  go_wp2_with fail
  clear a0 a1 a2
  go_loopw [4, 5, 7] (fun _ _ i wr => ∃ j : Nat, j ≤ 3 ∧ i = .int .i64 j ∧ Blk wr (w.heap.size + 1 + 1) (tL (ac j)) 32 ∧ Blk wr (w.heap.size + 1) [.bool false, .bool false, .bool false] 32 ∧ Ext w wr) (fun _ _ i _ => 3 - (intOf i).toNat)
  case atStart => exact ⟨0, Nat.zero_le _, rfl, by rw [HS0.out]; exact HBM.out, HBR.out, HXA.out⟩
  case round =>
    obtain ⟨j, hj, rfl, hbm, hbr, hx⟩ := hrel
    have HM := Lib.hid hbm
    have HR := Lib.hid hbr
    have HX := Lib.hid hx
    clear hbm hbr hx
    by_cases hlt : j < 3
    · have hix := HIX.out j hlt
      have HNT := Lib.hid (fun W => Not_any (j : Int) (by omega) W)
      rw [not3 j hlt] at HNT
      have HS1 := Lib.hid (HST.out j)
      generalize ac j = t at HM HS1
      obtain ⟨m, hm⟩ : ∃ m, 2 - j = m := ⟨_, rfl⟩
      have hm3 : m < 3 := by omega
      rw [hm] at HNT HS1
      generalize g3 (x, y, z) j = b at hix HS1
      have d3 : decide ((j : Int) < 3) = true := decide_eq_true (by omega)
      clear hm
      go_wp2_with fail
      refine (HNT.out _).mono ?_
      rintro e w1 ⟨rfl, hx⟩
      have HM1 := Lib.hid (HM.out.ext hx)
      have HR1 := Lib.hid (HR.out.ext hx)
      have HX1 := Lib.hid (Ext.trans HX.out hx)
      clear hx
      have mc := HM1.out.cell m _ (tL_at t m hm3)
      have mf := HM1.out.free m
      go_wp2_with fail
      go_roundw
      case rel => exact ⟨j + 1, by omega, by go_num, by rw [HS1.out, ← tL_set t m b hm3]; exact HM1.out.set m _, HR1.out.beside (by omega) m _, Below.setCell HX1.out (by show w.heap.size ≤ w.heap.size + 1 + 1; omega) _⟩
      case measure => first | (simp [intOf]; omega) | simp [intOf]
    · have e : j = 3 := by omega
      subst e
      obtain ⟨⟨r0, r1, r2⟩, hac⟩ : ∃ t, ac 3 = t := ⟨_, rfl⟩
      rw [hac] at HM
      have m0 := HM.out.cell 0 _ rfl
      have m1 := HM.out.cell 1 _ rfl
      have m2 := HM.out.cell 2 _ rfl
      have s0 : wr.cell? ⟨w.heap.size + 1, 0, none⟩ = some (.bool false) := HR.out.cell 0 _ rfl
      have s1 : wr.cell? ⟨w.heap.size + 1, 1, none⟩ = some (.bool false) := HR.out.cell 1 _ rfl
      have s2 : wr.cell? ⟨w.heap.size + 1, 2, none⟩ = some (.bool false) := HR.out.cell 2 _ rfl
      have f0 : wr.frozen? ⟨w.heap.size + 1, 0, none⟩ = false := HR.out.free 0
      have f1 : wr.frozen? ⟨w.heap.size + 1, 1, none⟩ = false := HR.out.free 1
      have f2 : wr.frozen? ⟨w.heap.size + 1, 2, none⟩ = false := HR.out.free 2
      have HAC := Lib.hid hac
      clear hac
      go_wp2_with fail
      refine bodyPost_ret (results_cell_row (P := Tryz.prog) (fn := Tryz.f25) rfl _ _ (w.heap.size + 1) 32 _ (0, 0) _ rfl (blk_set3 HR.out _ _ _) Tryz.underlying32 rfl (by kernel_rfl)) rfl ?_
      exact ⟨by rw [HAC.out], ext_set3 HX.out (by show w.heap.size ≤ w.heap.size + 1; omega) _ _ _⟩

end Go.Proofs.YtfnmcdjfdhdlmaaGreatDoor

/-
  The program's contracts of what may come of conditions: And and Or of what may come.
-/
namespace Go.Proofs.YtfnmcdjfdhdlmaaGreatDoor
open Go.ChangeAt Go.RowKit Go.BigFrame

theorem tri_nat {x : Nat} (h : x < 3) : tri (x : Int) := by
  match x, h with
  | 0, _ => exact .inl rfl
  | 1, _ => exact .inr (.inl rfl)
  | 2, _ => exact .inr (.inr rfl)
theorem joinT_jn (n : Nd) {x y : Nat} (hx : x < 3) (hy : y < 3) : joinT n (x : Int) (y : Int) = ((jnI (decide (n.op ≠ 2)) x y : Nat) : Int) := by
  unfold joinT
  by_cases h : n.op = 2
  · rw [if_pos h, decide_eq_false (fun q => q h)]
    match x, hx, y, hy with
    | 0, _, 0, _ => decide
    | 0, _, 1, _ => decide
    | 0, _, 2, _ => decide
    | 1, _, 0, _ => decide
    | 1, _, 1, _ => decide
    | 1, _, 2, _ => decide
    | 2, _, 0, _ => decide
    | 2, _, 1, _ => decide
    | 2, _, 2, _ => decide
  · rw [if_neg h, decide_eq_true h]
    match x, hx, y, hy with
    | 0, _, 0, _ => decide
    | 0, _, 1, _ => decide
    | 0, _, 2, _ => decide
    | 1, _, 0, _ => decide
    | 1, _, 1, _ => decide
    | 1, _, 2, _ => decide
    | 2, _, 0, _ => decide
    | 2, _, 1, _ => decide
    | 2, _, 2, _ => decide

set_option maxRecDepth 100000 in
set_option maxHeartbeats 8000000 in
theorem mayJoined_any (n : Nd) (a b : T3) (w : World) : Calls Tryz.prog 26 #[.int .u8 n.op, tripV a, tripV b] w fun e w' => e = .returned (tripV (joinZ n a b)) ∧ Ext w w' := by
  have HJ := Lib.hid (fun (x y : Nat) (hx : x < 3) (hy : y < 3) W => by
    have h := joined_any n x y (tri_nat hx) (tri_nat hy) W
    rw [joinT_jn n hx hy] at h
    exact h)
  have HQ := Lib.hid (show joinZ n a b = accJ (decide (n.op ≠ 2)) a b 9 from rfl)
  rw [HQ.out]
  clear HQ
  generalize hor : decide (n.op ≠ 2) = or at HJ ⊢
  generalize n.op = o at HJ hor ⊢
  clear hor
  have HST := Lib.hid (fun x y (hy : y < 3) => accJ_step or a b x y hy)
  have HS0 := Lib.hid (show accJ or a b 0 = (false, false, false) from rfl)
  have HIX := Lib.hid (fun k hk W => index3 a.1 a.2.1 a.2.2 k hk W)
  have HIY := Lib.hid (fun k hk W => index3 b.1 b.2.1 b.2.2 k hk W)
  obtain ⟨x, y, z⟩ := a
  obtain ⟨u, v, t⟩ := b
  unfold tripV
  simp only at HIX HIY ⊢
  generalize accJ or (x, y, z) (u, v, t) = ac at *
  generalize hga : g3 (x, y, z) = ga at HST HIX
  generalize hgb : g3 (u, v, t) = gb at HST HIY
  clear hga hgb
  have HBA := Lib.hid ((((Blk.new w [.bool x, .bool y, .bool z] 32).ext (ext_new _ (.cells #[.bool u, .bool v, .bool t] 32))).ext (ext_new _ (.cells #[.bool false, .bool false, .bool false] 32))).ext (ext_new _ (.cells #[.bool false, .bool false, .bool false] 32)))
  have HBB := Lib.hid (((blk_1 w (.cells #[.bool x, .bool y, .bool z] 32) (.cells #[.bool false, .bool false, .bool false] 32) [.bool u, .bool v, .bool t] 32)).ext (ext_new _ (.cells #[.bool false, .bool false, .bool false] 32)))
  have HBR := Lib.hid (show Blk ((((w.alloc (.cells #[.bool x, .bool y, .bool z] 32)).alloc (.cells #[.bool u, .bool v, .bool t] 32)).alloc (.cells #[.bool false, .bool false, .bool false] 32)).alloc (.cells #[.bool false, .bool false, .bool false] 32)) (w.heap.size + 1 + 1) (tL (false, false, false)) 32 from by
    have h := (Blk.new ((w.alloc (.cells #[.bool x, .bool y, .bool z] 32)).alloc (.cells #[.bool u, .bool v, .bool t] 32)) [.bool false, .bool false, .bool false] 32).ext (ext_new _ (.cells #[.bool false, .bool false, .bool false] 32))
    simp only [World.alloc, Array.size_push] at h
    exact h)
  have HBM := Lib.hid (show Blk ((((w.alloc (.cells #[.bool x, .bool y, .bool z] 32)).alloc (.cells #[.bool u, .bool v, .bool t] 32)).alloc (.cells #[.bool false, .bool false, .bool false] 32)).alloc (.cells #[.bool false, .bool false, .bool false] 32)) (w.heap.size + 1 + 1 + 1) (tL (false, false, false)) 32 from by
    have h := Blk.new (((w.alloc (.cells #[.bool x, .bool y, .bool z] 32)).alloc (.cells #[.bool u, .bool v, .bool t] 32)).alloc (.cells #[.bool false, .bool false, .bool false] 32)) [.bool false, .bool false, .bool false] 32
    simp only [World.alloc, Array.size_push] at h
    exact h)
  have HXA := Lib.hid (Ext.trans (ext_3 w (.cells #[.bool x, .bool y, .bool z] 32) (.cells #[.bool u, .bool v, .bool t] 32) (.cells #[.bool false, .bool false, .bool false] 32)) (ext_new _ (.cells #[.bool false, .bool false, .bool false] 32)))
  go_enter Tryz.func26, Tryz.ntmps26
  go_upto_region 2 with fail
  generalize (((w.alloc (.cells #[.bool x, .bool y, .bool z] 32)).alloc (.cells #[.bool u, .bool v, .bool t] 32)).alloc (.cells #[.bool false, .bool false, .bool false] 32)).alloc (.cells #[.bool false, .bool false, .bool false] 32) = WA at HBA HBB HBR HBM HXA ⊢
  have a0 := HBA.out.cell 0 _ rfl
  have a1 := HBA.out.cell 1 _ rfl
  have a2 := HBA.out.cell 2 _ rfl
  go_wp2_with fail
  clear a0 a1 a2
  go_loopw [8, 9, 13] (fun _ _ i wr => ∃ j : Nat, j ≤ 3 ∧ i = .int .i64 j ∧ Blk wr (w.heap.size + 1 + 1 + 1) (tL (ac (3 * j))) 32 ∧ Blk wr (w.heap.size + 1 + 1) (tL (false, false, false)) 32 ∧ Blk wr (w.heap.size + 1) [.bool u, .bool v, .bool t] 32 ∧ Ext w wr) (fun _ _ i _ => 3 - (intOf i).toNat)
  case atStart => exact ⟨0, Nat.zero_le _, rfl, by rw [HS0.out]; exact HBM.out, HBR.out, HBB.out, HXA.out⟩
  case round =>
    obtain ⟨j, hj, rfl, hbm, hbr, hbb, hx⟩ := hrel
    have HM := Lib.hid hbm
    have HR := Lib.hid hbr
    have HB := Lib.hid hbb
    have HX := Lib.hid hx
    clear hbm hbr hbb hx HBM HBR HBB HXA HBA
    by_cases hlt : j < 3
    · have hix := HIX.out j hlt
      obtain ⟨mx, hmx⟩ : ∃ t, ga j = t := ⟨_, rfl⟩
      rw [hmx] at hix
      have HMX := Lib.hid hmx
      have d3 : decide ((j : Int) < 3) = true := decide_eq_true (by omega)
      have b0 := HB.out.cell 0 _ rfl
      have b1 := HB.out.cell 1 _ rfl
      have b2 := HB.out.cell 2 _ rfl
      clear hmx
      go_wp2_with fail
      clear b0 b1 b2 hix
      go_loopw [10, 11, 18] (fun _ _ i wi => ∃ k : Nat, k ≤ 3 ∧ i = .int .i64 k ∧ Blk wi (w.heap.size + 1 + 1 + 1) (tL (ac (3 * j + k))) 32 ∧ Blk wi (w.heap.size + 1 + 1) (tL (false, false, false)) 32 ∧ Blk wi (w.heap.size + 1) [.bool u, .bool v, .bool t] 32 ∧ Ext w wi) (fun _ _ i _ => 3 - (intOf i).toNat)
      case atStart => exact ⟨0, Nat.zero_le _, rfl, HM.out, HR.out, HB.out, HX.out⟩
      case round =>
        obtain ⟨k, hk, rfl, hbm, hbr, hbb, hx⟩ := hrel
        clear HM HR HB HX
        have HM := Lib.hid hbm
        have HR := Lib.hid hbr
        have HB := Lib.hid hbb
        have HX := Lib.hid hx
        clear hbm hbr hbb hx
        by_cases hlk : k < 3
        · have hiy := HIY.out k hlk
          have HNT := Lib.hid (HJ.out j k hlt hlk)
          have HS1 := Lib.hid (HST.out j k hlk)
          rw [HMX.out] at HS1
          obtain ⟨mk, hmk⟩ : ∃ t, gb k = t := ⟨_, rfl⟩
          rw [hmk] at hiy HS1
          generalize ac (3 * j + k) = tq at HM HS1
          have hm3 : jnI or j k < 3 := jnI_lt hlt hlk
          generalize jnI or j k = m at HNT HS1 hm3
          have d4 : decide ((k : Int) < 3) = true := decide_eq_true (by omega)
          clear hmk
          cases mx with
          | false =>
            clear HNT
            rw [show (false && mk) = false from rfl, if_neg Bool.false_ne_true] at HS1
            go_wp2_with fail
            go_roundw
            case rel => exact ⟨k + 1, by omega, by go_num, by rw [show 3 * j + (k + 1) = 3 * j + k + 1 from rfl, HS1.out]; exact HM.out, HR.out, HB.out, HX.out⟩
            case measure => first | (simp [intOf]; omega) | simp [intOf]
          | true =>
            cases mk with
            | false =>
              clear HNT
              rw [show (true && false) = false from rfl, if_neg Bool.false_ne_true] at HS1
              go_wp2_with fail
              go_roundw
              case rel => exact ⟨k + 1, by omega, by go_num, by rw [show 3 * j + (k + 1) = 3 * j + k + 1 from rfl, HS1.out]; exact HM.out, HR.out, HB.out, HX.out⟩
              case measure => first | (simp [intOf]; omega) | simp [intOf]
            | true =>
              rw [show (true && true) = true from rfl, if_pos rfl] at HS1
              go_wp2_with fail
              refine (HNT.out _).mono ?_
              rintro e w1 ⟨rfl, hx⟩
              have HM1 := Lib.hid (HM.out.ext hx)
              have HR1 := Lib.hid (HR.out.ext hx)
              have HB1 := Lib.hid (HB.out.ext hx)
              have HX1 := Lib.hid (Ext.trans HX.out hx)
              clear hx
              have mc := HM1.out.cell m _ (tL_at tq m hm3)
              have mf := HM1.out.free m
              go_wp2_with fail
              go_roundw
              case rel => exact ⟨k + 1, by omega, by go_num, by rw [show 3 * j + (k + 1) = 3 * j + k + 1 from rfl, HS1.out, ← tL_set tq m true hm3]; exact HM1.out.set m _, HR1.out.beside (by omega) m _, HB1.out.beside (by omega) m _, Below.setCell HX1.out (by show w.heap.size ≤ w.heap.size + 1 + 1 + 1; omega) _⟩
              case measure => first | (simp [intOf]; omega) | simp [intOf]
        · have e : k = 3 := by omega
          subst e
          have d5 : decide ((3 : Int) < 3) = false := by decide
          go_wp2_with fail
          go_roundw
          case rel => exact ⟨j + 1, by omega, by go_num, HM.out, HR.out, HB.out, HX.out⟩
          case measure => first | (simp [intOf]; omega) | simp [intOf]
    · have e : j = 3 := by omega
      subst e
      obtain ⟨⟨r0, r1, r2⟩, hac⟩ : ∃ t, ac (3 * 3) = t := ⟨_, rfl⟩
      rw [hac] at HM
      have m0 := HM.out.cell 0 _ rfl
      have m1 := HM.out.cell 1 _ rfl
      have m2 := HM.out.cell 2 _ rfl
      have s0 : wr.cell? ⟨w.heap.size + 1 + 1, 0, none⟩ = some (.bool false) := HR.out.cell 0 _ rfl
      have s1 : wr.cell? ⟨w.heap.size + 1 + 1, 1, none⟩ = some (.bool false) := HR.out.cell 1 _ rfl
      have s2 : wr.cell? ⟨w.heap.size + 1 + 1, 2, none⟩ = some (.bool false) := HR.out.cell 2 _ rfl
      have f0 : wr.frozen? ⟨w.heap.size + 1 + 1, 0, none⟩ = false := HR.out.free 0
      have f1 : wr.frozen? ⟨w.heap.size + 1 + 1, 1, none⟩ = false := HR.out.free 1
      have f2 : wr.frozen? ⟨w.heap.size + 1 + 1, 2, none⟩ = false := HR.out.free 2
      have HAC := Lib.hid hac
      clear hac
      go_wp2_with fail
      refine bodyPost_ret (results_cell_row (P := Tryz.prog) (fn := Tryz.f26) rfl _ _ (w.heap.size + 1 + 1) 32 _ (0, 0) _ rfl (blk_set3 HR.out _ _ _) Tryz.underlying32 rfl (by kernel_rfl)) rfl ?_
      exact ⟨by rw [show (9 : Nat) = 3 * 3 from rfl, HAC.out], ext_set3 HX.out (by show w.heap.size ≤ w.heap.size + 1 + 1; omega) _ _ _⟩

end Go.Proofs.YtfnmcdjfdhdlmaaGreatDoor

/-
  The contracts of the document's own Letters, Parts, Check, Quote, Fixed, Match.
-/
namespace Go.Proofs.YtfnmcdjfdhdlmaaGreatDoor
open Go.RowKit

theorem decode_any (r : List UInt8) (w : World) (hT : Tabs w) (h : r ≠ []) :
    Calls Tryz.prog 112 #[sv r] w fun e w' => (∃ c : Nat, e = .returned (.tuple #[.int .i32 c, .int .i64 (wid r)])) ∧ Below w.heap.size w w' := by
  have hd : Lib.decodeGo (⟨r.toArray⟩ : ByteArray) = Lib.decodeL r := by
    unfold Lib.decodeGo Lib.decodeL
    rw [if_neg (by
      intro e
      have : r.length = 0 := e
      exact h (List.length_eq_zero_iff.1 this))]
  have := Any.utf8_DecodeRuneInString Tryz.laysDecode (⟨r.toArray⟩ : ByteArray) w hT
  rw [hd] at this
  exact Calls.mono this fun e w' ⟨h1, h2⟩ => ⟨⟨_, h1⟩, h2⟩

set_option maxRecDepth 100000 in
set_option maxHeartbeats 1000000 in
theorem refLetters_any (l : List UInt8) (w : World) (hT : Tabs w) (hl : l.length ≤ 5000) :
    Calls Tryz.prog 88 #[sv l] w (Fresh 9 w ((lets l).map sv)) := by
  obtain ⟨i0, hi, hz0, hz1, hz2⟩ := info_parts Tryz.info_string
  have HT := Lib.hid hT
  have HL := Lib.hid hl
  clear hT hl
  unfold sv
  go_enter Tryz.func88, Tryz.ntmps88
  go_wp2_with fail
  go_loopw [0, 3] (fun s v wr => ∃ pre r, s = sv r ∧ l.length = pre.flatten.length + r.length ∧ lets l = pre ++ lets r ∧ wr.ownsRow w.heap.size 9 1 v pre.length (pre.map sv) ∧ Below w.heap.size w wr) (fun s _ _ => match s with | .string b => b.size | _ => 0)
  case atStart => exact ⟨[], l, rfl, by simp, rfl, World.ownsRow_nil _ _ _ _, Below.refl _ _⟩
  case round =>
    obtain ⟨pre, r, rfl, hlen, hlets, hown, hbel⟩ := hrel
    have HLEN := Lib.hid hlen
    have HLETS := Lib.hid hlets
    have HOWN := Lib.hid hown
    have HBEL := Lib.hid hbel
    clear hlen hlets hown hbel
    by_cases hr : r = []
    · subst hr
      unfold sv
      go_wp2_with fail
      go_ret
      refine ⟨_, rfl, ?_, HBEL.out⟩
      have h1 := HLETS.out
      rw [lets_nil, List.append_nil] at h1
      show wr.ownsRow w.heap.size 9 1 _ _ ((lets l).map sv)
      rw [h1, List.length_map]
      exact HOWN.out
    · have hw := wid_bounds r hr
      have HD := Lib.hid (decode_any r wr (HT.out.mono HBEL.out) hr)
      have HC := Lib.hid (lets_cons r hr)
      have HX1 := Lib.hid (extract_take r (wid r) hw.2.1)
      have HX2 := Lib.hid (extract_drop r (wid r) hw.2.1)
      have HLW := Lib.hid (lets_length l)
      generalize wid r = k at hw HD HC HX1 HX2
      have hpos : decide (0 < r.length) = true := decide_eq_true (List.length_pos_iff.2 hr)
      have hr5 : r.length ≤ 5000 := by have := HL.out; have := HLEN.out; omega
      unfold sv at HD ⊢
      clear hr
      go_wp2_with fail
      refine HD.out.mono ?_
      rintro e w2 ⟨⟨c, rfl⟩, hb2⟩
      have HB2 := Lib.hid hb2
      have HO2 := Lib.hid (owns_later HOWN.out hb2)
      clear hb2
      go_wp2_with (at_builtin; go_loud (refine wpList_append_own _ rfl (.tmp 14) (.tmp 18) 112 rfl w.heap.size 9 i0 (.string ByteArray.empty) 1 16 Tryz.underlying112 hi hz0 hz1 hz2 rfl (by decide) _ _ _ rfl (HO2.out.alloc _) ⟨w2.heap.size, 0, none⟩ 1 1 [_] rfl rfl (cells_new _ _ _) (by simp [Value.oneCell']) (by have := HLW.out; have := congrArg List.length HLETS.out; rw [List.length_append] at this; have := HL.out; unfold maxLen; simp; omega) (by have := HLW.out; have := congrArg List.length HLETS.out; rw [List.length_append] at this; have := HL.out; simp; omega) (by have := HBEL.out.size; have := HB2.out.size; simp; omega) ?_); intro v3 w3 hown3 hgrow3 _; have HO3 := Lib.hid hown3; have HG3 := Lib.hid hgrow3; clear hown3 hgrow3)
      go_roundw
      case rel =>
        refine ⟨pre ++ [r.take k], r.drop k, by rw [HX2.out], ?_, ?_, ?_, ?_⟩
        · rw [HLEN.out, List.flatten_append, List.length_append, List.length_drop]
          simp
          omega
        · rw [HLETS.out, HC.out, List.append_assoc]; rfl
        · have h := HO3.out
          rw [HX1.out] at h
          rw [List.length_append, List.map_append]
          exact h
        · refine ((HBEL.out.trans (HB2.out.mono HBEL.out.size)).alloc (by have := HBEL.out.size; have := HB2.out.size; omega) _).grown HG3.out (by have := HBEL.out.size; have := HB2.out.size; simp; omega) (fun b hb => (HO2.out.lt b hb).1)
      case measure =>
        rw [HX2.out]
        show (r.drop k).length < r.length
        rw [List.length_drop]
        omega

end Go.Proofs.YtfnmcdjfdhdlmaaGreatDoor
