/-
  The contracts of the document's own zones: Take.
-/
import Derived.Deep.RegionWith
import Derived.Test.YtlbilmmjcfiokaaZoneRef4
import Derived.Test.YtlbilmmjcfiokaaZonePure
import Derived.Test.YtlbilmmjcfiokaaCellRefTaken
import Derived.Test.YtlbilmmjcfiokaaRefTk
import Derived.Test.YtlbilmmjcfiokaaCellRefE
import Derived.Test.YtlbilmmjcfiokaaHead
namespace Go.Proofs.Ytlbilmmjcfiokaa
open Go.RowKit Go.BigFrame

theorem rdrP_ext {T : TypeId} {P : Nat → Prop} {g : Nat} {w w' : World} {l : List UInt8} {bad : Bool} (h : RdrP T P w g l bad) (hx : Ext w w') : RdrP T P w' g l bad := by
  obtain ⟨v, h1, h2, h3⟩ := h
  exact ⟨v, (hx.block g (Array.getElem?_eq_some_iff.1 h1).1).trans h1, h2.mono hx, h3⟩
theorem Blk.only {W W' : World} {b g : Nat} {xs : List Value} {t : TypeId} (h : Blk W b xs t) (ho : Only g W W') (hne : b ≠ g) : Blk W' b xs t :=
  (ho.block b h.lt (fun e => hne (by simpa using e))).trans h

theorem rdrP_set {T : TypeId} {P : Nat → Prop} {G b : Nat} {W : World} {l : List UInt8} {bad : Bool} (h : RdrP T P W G l bad) (hl : l ≠ [] → ∀ k, P k → k ≠ b) (hb : G ≠ b) (j : Nat) (u : Value) : RdrP T P (W.setCell ⟨b, j, none⟩ u) G l bad := by
  obtain ⟨v, d1, d2, d3⟩ := h
  refine ⟨v, ?_, ?_, d3⟩
  · rw [Below.heap_setCell _ _ _ _ hb]
    exact d1
  · exact Rd.onlyS d2 (X := fun k => k = b) ⟨rfl, rfl, rfl, by simp [World.setCell], fun k _ hk => Below.heap_setCell _ _ _ _ hk⟩ fun hne k hk => hl hne k (d3 k hk)
/-- Where Take stands behind both values: the answer's place, the reader, the zone under way. -/
structure TZ (w : World) (z : Zo) (g G N : Nat) (m l : List UInt8) (bad : Bool) (W : World) : Prop where
  r : Blk W w.heap.size Zo.zero.cells 26
  d : RRefP (fun k => m = [] ∨ k < N) W G l bad
  z : Blk W g z.cells 26
  ne : g ≠ G
  wg : w.heap.size < g
  wG : w.heap.size < G
  x : Ext w W
  nN : N ≤ g
  lm : m = [] → l = []
theorem TZ.ext {w : World} {z : Zo} {g G N : Nat} {m l : List UInt8} {bad : Bool} {W W' : World} (h : TZ w z g G N m l bad W) (hx : Ext W W') : TZ w z g G N m l bad W' := ⟨h.r.ext hx, rdrP_ext h.d hx, h.z.ext hx, h.ne, h.wg, h.wG, Ext.trans h.x hx, h.nN, h.lm⟩
theorem TZ.only {w : World} {z : Zo} {g G N : Nat} {m l l' : List UInt8} {bad bad' : Bool} {W W' : World} (h : TZ w z g G N m l bad W) (hd : RRefP (fun k => m = [] ∨ k < N) W' G l' bad') (ho : Only G W W') (hl : l = [] → l' = []) : TZ w z g G N m l' bad' W' :=
  ⟨h.r.only ho (by have := h.wG; omega), hd, h.z.only ho h.ne, h.ne, h.wg, h.wG, ⟨ho.os.trans h.x.os, ho.tape.trans h.x.tape, ho.output.trans h.x.output, Nat.le_trans h.x.size ho.size, fun k hk => (ho.block k (Nat.lt_of_lt_of_le hk h.x.size) (fun e => by have := h.wG; have : k = G := (by simpa using e); omega)).trans (h.x.block k hk)⟩, h.nN, fun e => hl (h.lm e)⟩
theorem TZ.far {w : World} {z : Zo} {g G N : Nat} {m l : List UInt8} {bad : Bool} {W : World} (h : TZ w z g G N m l bad W) : l ≠ [] → ∀ k, (m = [] ∨ k < N) → k ≠ g := fun hl k hk e => by
  rcases hk with hk | hk
  · exact hl (h.lm hk)
  · have := h.nN; omega
theorem TZ.setM {w : World} {z : Zo} {g G N : Nat} {m l : List UInt8} {bad : Bool} {W : World} (h : TZ w z g G N m l bad W) (y : Int) : TZ w ⟨z.a, z.b, z.n, y⟩ g G N m l bad (W.setCell ⟨g, 7, none⟩ (.int .i64 y)) := by
  have hg := h.wg
  exact ⟨h.r.beside (by omega) _ _, rdrP_set h.d h.far (Ne.symm h.ne) _ _, h.z.set 7 _, h.ne, h.wg, h.wG, Below.setCell h.x (by show w.heap.size ≤ g; omega) _, h.nN, h.lm⟩
theorem TZ.put {w : World} {y : Zo} {g G N : Nat} {m l : List UInt8} {bad : Bool} {W : World} (h : TZ w y g G N m l bad W) (z : Zo) : TZ w z g G N m l bad (put8 W g z) := by
  have hg := h.wg
  have hf := h.far
  have hn := Ne.symm h.ne
  exact ⟨h.r.put8_beside (by omega) z, rdrP_set (rdrP_set (rdrP_set (rdrP_set (rdrP_set (rdrP_set (rdrP_set (rdrP_set h.d hf hn _ _) hf hn _ _) hf hn _ _) hf hn _ _) hf hn _ _) hf hn _ _) hf hn _ _) hf hn _ _, h.z.put8 z, h.ne, h.wg, h.wG, below_put8 h.x (by omega) z, h.nN, h.lm⟩
/-- .. ahead of the zone. -/
structure TY (w : World) (G N : Nat) (m l : List UInt8) (bad : Bool) (W : World) : Prop where
  r : Blk W w.heap.size Zo.zero.cells 26
  d : RRefP (fun k => m = [] ∨ k < N) W G l bad
  wG : w.heap.size < G
  x : Ext w W
  lm : m = [] → l = []
  nN : N ≤ W.heap.size
theorem TY.lt {w : World} {G N : Nat} {m l : List UInt8} {bad : Bool} {W : World} (h : TY w G N m l bad W) : G < W.heap.size := by
  obtain ⟨v, h1, -⟩ := h.d
  exact (Array.getElem?_eq_some_iff.1 h1).1
theorem TY.ext {w : World} {G N : Nat} {m l : List UInt8} {bad : Bool} {W W' : World} (h : TY w G N m l bad W) (hx : Ext W W') : TY w G N m l bad W' := ⟨h.r.ext hx, rdrP_ext h.d hx, h.wG, Ext.trans h.x hx, h.lm, Nat.le_trans h.nN hx.size⟩
theorem TY.only {w : World} {G N : Nat} {m l l' : List UInt8} {bad bad' : Bool} {W W' : World} (h : TY w G N m l bad W) (hd : RRefP (fun k => m = [] ∨ k < N) W' G l' bad') (ho : Only G W W') (hl : l = [] → l' = []) : TY w G N m l' bad' W' :=
  ⟨h.r.only ho (by have := h.wG; omega), hd, h.wG, ⟨ho.os.trans h.x.os, ho.tape.trans h.x.tape, ho.output.trans h.x.output, Nat.le_trans h.x.size ho.size, fun k hk => (ho.block k (Nat.lt_of_lt_of_le hk h.x.size) (fun e => by have := h.wG; have : k = G := (by simpa using e); omega)).trans (h.x.block k hk)⟩, fun e => hl (h.lm e), Nat.le_trans h.nN ho.size⟩
theorem TY.new {w : World} {G N : Nat} {m l : List UInt8} {bad : Bool} {W : World} (h : TY w G N m l bad W) (z : Zo) : TZ w z W.heap.size G N m l bad (W.alloc (.cells z.cells.toArray 26)) :=
  ⟨h.r.ext (ext_new _ _), rdrP_ext h.d (ext_new _ _), Blk.new _ _ _, by have := h.lt; omega, by have := h.lt; have := h.wG; omega, h.wG, Ext.trans h.x (ext_new _ _), h.nN, h.lm⟩
theorem tk_nil_of {l : List UInt8} (h : l = []) : (tk l).2.1 = [] := by subst h; rfl

set_option maxRecDepth 100000 in
set_option maxHeartbeats 20000000 in
theorem refTakeZ_any (k : Int) (u : Value) (b : List UInt8) (w : World) (hk : 0 ≤ k ∧ k ≤ 255) (hr : Rd w u b) (hl : b.length ≤ 1000000) :
    Calls Try.prog 17 #[.int .u8 k, u] w fun e w' => e = .returned (.tuple #[(takenZ k b).1.val, .int .i64 (takenZ k b).2]) ∧ Ext w w' := by
  obtain ⟨ua, uc, rfl, -, -⟩ := hr.shape
  have HU := Lib.hid hr
  have HK := Lib.hid (fun W => refKind_any k W hk)
  have HB0 := Lib.hid (Blk.new w Zo.zero.cells 26)
  have HX0 := Lib.hid (ext_new w (.cells Zo.zero.cells.toArray 26))
  have HRZ := Lib.hid (fun z W h1 h2 => refRightZ_any k z W hk h1 h2)
  have HLB := Lib.hid hl
  obtain ⟨L, hL⟩ : ∃ L, b.length = L := ⟨_, rfl⟩
  have HL := Lib.hid hL
  rw [hL]
  clear hr hl hL
  by_cases h13 : 1 ≤ k ∧ k ≤ 3
  · rw [decide_eq_true h13] at HK
    rw [show takenZ k b = takeZ k b from if_neg (fun h => h h13)]
    clear h13 hk
    go_enter Try.func17, Try.ntmps17
    go_wp2_with fail
    refine (HK.out _).mono ?_
    rintro e w1 ⟨rfl, rfl⟩
    go_wp2_with fail
    have HU1 := Lib.hid (HU.out.mono HX0.out)
    rw [HL.out] at HU1
    refine (refTake_any _ b _ (by have := HU.out.mono HX0.out; rw [HL.out] at this; exact this) HLB.out).mono ?_
    rintro e w1 ⟨⟨v, m, r, htk, rfl, hrd⟩ | ⟨hno, rfl⟩, hx⟩
    · obtain ⟨hv1, hv2, -, hvm⟩ := takeV_sound htk
      have HTK := Lib.hid htk
      have HV := Lib.hid (And.intro hv1 hv2)
      have HML := Lib.hid (show m.length ≤ 1000000 by have := congrArg List.length hvm; rw [List.length_append] at this; have := HLB.out; omega)
      have HB1 := Lib.hid ((HB0.out.ext hx))
      have HX1 := Lib.hid (Ext.trans HX0.out hx)
      have HU2 := Lib.hid ((HU.out.mono HX0.out).mono hx)
      obtain ⟨ra, rc, rfl, hm1, hm2⟩ := hrd.shape
      have HRD := Lib.hid hrd
      obtain ⟨M, hM⟩ : ∃ M, m.length = M := ⟨_, rfl⟩
      have HM := Lib.hid hM
      rw [hM]
      obtain ⟨ak, an, as'⟩ := v
      clear hx htk hv1 hv2 hvm hrd hM hm1 hm2
      unfold V.val
      simp only
      go_wp2_with fail
      have HN1 := Lib.hid (ext_new w1 (.cells #[.int .u8 ak, .int .i64 an, .string ⟨as'.toArray⟩] 24))
      have HV1 := Lib.hid (Blk.new w1 [.int .u8 ak, .int .i64 an, .string ⟨as'.toArray⟩] 24)
      refine (refTake_any _ m _ (by have := HRD.out.mono HN1.out; rw [HM.out] at this; exact this) HML.out).mono ?_
      rintro e w2 ⟨⟨v2, m2, r2, htk2, rfl, hrd2⟩ | ⟨hno, rfl⟩, hx⟩
      · obtain ⟨hv1, hv2, -, hvm⟩ := takeV_sound htk2
        have HTK2 := Lib.hid htk2
        have HV2 := Lib.hid (And.intro hv1 hv2)
        have HB2 := Lib.hid ((HB1.out.ext HN1.out).ext hx)
        have HA2 := Lib.hid (HV1.out.ext hx)
        have HX2 := Lib.hid (Ext.trans (Ext.trans HX1.out HN1.out) hx)
        have HU3 := Lib.hid ((HU2.out.mono HN1.out).mono hx)
        obtain ⟨qa, qc, rfl, hm1, hm2⟩ := hrd2.shape
        have HRD2 := Lib.hid hrd2
        obtain ⟨M2, hM2⟩ : ∃ M, m2.length = M := ⟨_, rfl⟩
        have HM2 := Lib.hid hM2
        rw [hM2]
        obtain ⟨bk, bn, bs⟩ := v2
        clear hx htk2 hv1 hv2 hvm hrd2 hM2 hm1 hm2
        unfold V.val
        simp only
        go_upto_region 10 with fail

        have HO3 := Lib.hid (ext_two w2 (.cells #[.int .u8 bk, .int .i64 bn, .string ⟨bs.toArray⟩] 24) (.cells #[.slice qa M2 qc, .bool false] 59))
        have HOWN := Lib.hid (show ∀ k, (Value.slice qa M2 qc).ownBlock = some k → m2 = [] ∨ k < w2.heap.size from fun k hk => by
          have hrd := HRD2.out
          rw [HM2.out] at hrd
          rcases hrd with ⟨e, e1⟩ | ⟨x, cap, e, e2, e3, e4⟩
          · exact .inl (by simpa using e1)
          · rw [e] at hk
            have hxb : x.block = k := by simpa [Value.ownBlock] using hk
            by_cases h0 : m2 = []
            · exact .inl h0
            · right
              have hl : 0 < m2.length := List.length_pos_iff.2 h0
              have hc := e4 0 _ (by rw [List.getElem?_map, List.getElem?_eq_getElem hl]; rfl)
              have := lt_of_cell hc
              rw [add_zero] at this
              omega)
        have HD3 := Lib.hid (show RRefP (fun k => m2 = [] ∨ k < w2.heap.size) ((w2.alloc (.cells #[.int .u8 bk, .int .i64 bn, .string ⟨bs.toArray⟩] 24)).alloc (.cells #[.slice qa M2 qc, .bool false] 59)) (w2.heap.size + 1) m2 false from
          ⟨.slice qa M2 qc, by have h := Blk.new (w2.alloc (.cells #[.int .u8 bk, .int .i64 bn, .string ⟨bs.toArray⟩] 24)) [.slice qa M2 qc, .bool false] 59; simp only [World.alloc, Array.size_push] at h; exact h, by have := HRD2.out.mono HO3.out; rw [HM2.out] at this; exact this, HOWN.out⟩)
        have HA3 := Lib.hid (HA2.out.ext HO3.out)
        have HB3 := Lib.hid (show Blk ((w2.alloc (.cells #[.int .u8 bk, .int .i64 bn, .string ⟨bs.toArray⟩] 24)).alloc (.cells #[.slice qa M2 qc, .bool false] 59)) w2.heap.size [.int .u8 bk, .int .i64 bn, .string ⟨bs.toArray⟩] 24 from (Blk.new w2 [.int .u8 bk, .int .i64 bn, .string ⟨bs.toArray⟩] 24).ext (ext_new _ _))
        have HR3 := Lib.hid (HB2.out.ext HO3.out)
        have HX3 := Lib.hid (Ext.trans HX2.out HO3.out)
        have HS1 := Lib.hid (show w1.heap.size < w2.heap.size from HA2.out.lt)
        have HS0 := Lib.hid (show w.heap.size < w1.heap.size from HB1.out.lt)
        have HS3 := Lib.hid (show ((w2.alloc (.cells #[.int .u8 bk, .int .i64 bn, .string ⟨bs.toArray⟩] 24)).alloc (.cells #[.slice qa M2 qc, .bool false] 59)).heap.size = w2.heap.size + 1 + 1 by simp)
        clear HK HB0 HX0 HB1 HX1 HN1 HV1 HB2 HA2 HX2 HU2 HU3
        have HY3 := Lib.hid (show TY w (w2.heap.size + 1) w2.heap.size m2 m2 false ((w2.alloc (.cells #[.int .u8 bk, .int .i64 bn, .string ⟨bs.toArray⟩] 24)).alloc (.cells #[.slice qa M2 qc, .bool false] 59)) from ⟨HR3.out, HD3.out, by have := HS0.out; have := HS1.out; omega, HX3.out, id, by rw [HS3.out]; omega⟩)
        generalize ((w2.alloc (.cells #[.int .u8 bk, .int .i64 bn, .string ⟨bs.toArray⟩] 24)).alloc (.cells #[.slice qa M2 qc, .bool false] 59)) = W3 at HO3 HD3 HA3 HB3 HR3 HX3 HS3 HY3 ⊢
        go_cut [11] from 12 (fun s11 W => ∃ g, s11 = .pointer (some ⟨g, 0, none⟩) ∧ TZ w ⟨⟨ak, an, as'⟩, ⟨bk, bn, bs⟩, zag (tk m2).1, 0⟩ g (w2.heap.size + 1) w2.heap.size m2 (tk m2).2.1 (tk m2).2.2 W)
        case first =>
          have a0 : W3.cell? ⟨w1.heap.size, 0, none⟩ = some (.int .u8 ak) := HA3.out.cell 0 _ rfl
          have a1 : W3.cell? ⟨w1.heap.size, 1, none⟩ = some (.int .i64 an) := HA3.out.cell 1 _ rfl
          have a2 : W3.cell? ⟨w1.heap.size, 2, none⟩ = some (.string ⟨as'.toArray⟩) := HA3.out.cell 2 _ rfl
          have b0 : W3.cell? ⟨w2.heap.size, 0, none⟩ = some (.int .u8 bk) := HB3.out.cell 0 _ rfl
          have b1 : W3.cell? ⟨w2.heap.size, 1, none⟩ = some (.int .i64 bn) := HB3.out.cell 1 _ rfl
          have b2 : W3.cell? ⟨w2.heap.size, 2, none⟩ = some (.string ⟨bs.toArray⟩) := HB3.out.cell 2 _ rfl
          have c0 : ∀ o, (W3.alloc o).cell? ⟨w1.heap.size, 0, none⟩ = some (.int .u8 ak) := fun o => (HA3.out.ext (ext_new _ o)).cell 0 _ rfl
          have c1 : ∀ o, (W3.alloc o).cell? ⟨w1.heap.size, 1, none⟩ = some (.int .i64 an) := fun o => (HA3.out.ext (ext_new _ o)).cell 1 _ rfl
          have c2 : ∀ o, (W3.alloc o).cell? ⟨w1.heap.size, 2, none⟩ = some (.string ⟨as'.toArray⟩) := fun o => (HA3.out.ext (ext_new _ o)).cell 2 _ rfl
          have d0 : ∀ o, (W3.alloc o).cell? ⟨w2.heap.size, 0, none⟩ = some (.int .u8 bk) := fun o => (HB3.out.ext (ext_new _ o)).cell 0 _ rfl
          have d1 : ∀ o, (W3.alloc o).cell? ⟨w2.heap.size, 1, none⟩ = some (.int .i64 bn) := fun o => (HB3.out.ext (ext_new _ o)).cell 1 _ rfl
          have d2 : ∀ o, (W3.alloc o).cell? ⟨w2.heap.size, 2, none⟩ = some (.string ⟨bs.toArray⟩) := fun o => (HB3.out.ext (ext_new _ o)).cell 2 _ rfl
          have HTA := Lib.hid (fun w4 (hd : RRefP (fun k => m2 = [] ∨ k < w2.heap.size) w4 (w2.heap.size + 1) (tk m2).2.1 (tk m2).2.2) (ho : Only (w2.heap.size + 1) W3.drew w4) => ((HY3.out.ext (Ext.drew W3)).only hd ho tk_nil_of).new ⟨⟨ak, an, as'⟩, ⟨bk, bn, bs⟩, zag (tk m2).1, 0⟩)
          have HTB := Lib.hid (fun w4 (hd : RRefP (fun k => m2 = [] ∨ k < w2.heap.size) w4 (w2.heap.size + 1) (tk m2).2.1 (tk m2).2.2) (ho : Only (w2.heap.size + 1) (W3.alloc (.cells #[.int .u8 0, .int .i64 0, .string ⟨#[]⟩, .int .u8 0, .int .i64 0, .string ⟨#[]⟩, .int .i64 0, .int .i64 0] 26)).drew w4) => ((((HY3.out.new Zo.zero).ext (Ext.drew _)).only hd ho tk_nil_of).put ⟨⟨ak, an, as'⟩, ⟨bk, bn, bs⟩, zag (tk m2).1, 0⟩))
          have HCA := Lib.hid (refRInt_tk (fun k => m2 = [] ∨ k < w2.heap.size) (w2.heap.size + 1) m2 false W3.drew (fun h => by cases h) (rdrP_ext HD3.out (Ext.drew _)))
          have HCB := Lib.hid (refRInt_tk (fun k => m2 = [] ∨ k < w2.heap.size) (w2.heap.size + 1) m2 false (W3.alloc (.cells #[.int .u8 0, .int .i64 0, .string ⟨#[]⟩, .int .u8 0, .int .i64 0, .string ⟨#[]⟩, .int .i64 0, .int .i64 0] 26)).drew (fun h => by cases h) (rdrP_ext (rdrP_ext HD3.out (ext_new _ (.cells #[.int .u8 0, .int .i64 0, .string ⟨#[]⟩, .int .u8 0, .int .i64 0, .string ⟨#[]⟩, .int .i64 0, .int .i64 0] 26))) (Ext.drew _)))
          have HFA := Lib.hid (fun w4 (ho : Only (w2.heap.size + 1) W3.drew w4) => And.intro ((HA3.out.ext (Ext.drew _)).only ho (by have := HS1.out; omega)) ((HB3.out.ext (Ext.drew _)).only ho (by omega)))
          have HFB := Lib.hid (fun w4 (ho : Only (w2.heap.size + 1) (W3.alloc (.cells #[.int .u8 0, .int .i64 0, .string ⟨#[]⟩, .int .u8 0, .int .i64 0, .string ⟨#[]⟩, .int .i64 0, .int .i64 0] 26)).drew w4) => And.intro (((HA3.out.ext (ext_new _ (.cells #[.int .u8 0, .int .i64 0, .string ⟨#[]⟩, .int .u8 0, .int .i64 0, .string ⟨#[]⟩, .int .i64 0, .int .i64 0] 26))).ext (Ext.drew _)).only ho (by have := HS1.out; omega)) (And.intro (((HB3.out.ext (ext_new _ (.cells #[.int .u8 0, .int .i64 0, .string ⟨#[]⟩, .int .u8 0, .int .i64 0, .string ⟨#[]⟩, .int .i64 0, .int .i64 0] 26))).ext (Ext.drew _)).only ho (by omega)) (((Blk.new W3 Zo.zero.cells 26).ext (Ext.drew _)).only ho (by have := HS3.out; omega))))
          go_region_with (go_at_call 39; first | (refine HCA.out.mono ?_; rintro e w4 ⟨rfl, hd, ho⟩; have HF := Lib.hid (HFA.out w4 ho); have HT := Lib.hid (HTA.out w4 hd ho); clear hd ho; have e0 : w4.cell? ⟨w1.heap.size, 0, none⟩ = some (.int .u8 ak) := HF.out.1.cell 0 _ rfl; have e1 : w4.cell? ⟨w1.heap.size, 1, none⟩ = some (.int .i64 an) := HF.out.1.cell 1 _ rfl; have e2 : w4.cell? ⟨w1.heap.size, 2, none⟩ = some (.string ⟨as'.toArray⟩) := HF.out.1.cell 2 _ rfl; have g0 : w4.cell? ⟨w2.heap.size, 0, none⟩ = some (.int .u8 bk) := HF.out.2.cell 0 _ rfl; have g1 : w4.cell? ⟨w2.heap.size, 1, none⟩ = some (.int .i64 bn) := HF.out.2.cell 1 _ rfl; have g2 : w4.cell? ⟨w2.heap.size, 2, none⟩ = some (.string ⟨bs.toArray⟩) := HF.out.2.cell 2 _ rfl; have i0 : ∀ o, (w4.alloc o).cell? ⟨w1.heap.size, 0, none⟩ = some (.int .u8 ak) := fun o => (HF.out.1.ext (ext_new _ o)).cell 0 _ rfl; have i1 : ∀ o, (w4.alloc o).cell? ⟨w1.heap.size, 1, none⟩ = some (.int .i64 an) := fun o => (HF.out.1.ext (ext_new _ o)).cell 1 _ rfl; have i2 : ∀ o, (w4.alloc o).cell? ⟨w1.heap.size, 2, none⟩ = some (.string ⟨as'.toArray⟩) := fun o => (HF.out.1.ext (ext_new _ o)).cell 2 _ rfl; have j0 : ∀ o, (w4.alloc o).cell? ⟨w2.heap.size, 0, none⟩ = some (.int .u8 bk) := fun o => (HF.out.2.ext (ext_new _ o)).cell 0 _ rfl; have j1 : ∀ o, (w4.alloc o).cell? ⟨w2.heap.size, 1, none⟩ = some (.int .i64 bn) := fun o => (HF.out.2.ext (ext_new _ o)).cell 1 _ rfl; have j2 : ∀ o, (w4.alloc o).cell? ⟨w2.heap.size, 2, none⟩ = some (.string ⟨bs.toArray⟩) := fun o => (HF.out.2.ext (ext_new _ o)).cell 2 _ rfl) | (refine HCB.out.mono ?_; rintro e w4 ⟨rfl, hd, ho⟩; have HF := Lib.hid (HFB.out w4 ho); have HT := Lib.hid (HTB.out w4 hd ho); clear hd ho; have e0 : w4.cell? ⟨w1.heap.size, 0, none⟩ = some (.int .u8 ak) := HF.out.1.cell 0 _ rfl; have e1 : w4.cell? ⟨w1.heap.size, 1, none⟩ = some (.int .i64 an) := HF.out.1.cell 1 _ rfl; have e2 : w4.cell? ⟨w1.heap.size, 2, none⟩ = some (.string ⟨as'.toArray⟩) := HF.out.1.cell 2 _ rfl; have g0 : w4.cell? ⟨w2.heap.size, 0, none⟩ = some (.int .u8 bk) := HF.out.2.1.cell 0 _ rfl; have g1 : w4.cell? ⟨w2.heap.size, 1, none⟩ = some (.int .i64 bn) := HF.out.2.1.cell 1 _ rfl; have g2 : w4.cell? ⟨w2.heap.size, 2, none⟩ = some (.string ⟨bs.toArray⟩) := HF.out.2.1.cell 2 _ rfl; have l0 : w4.cell? ⟨W3.heap.size, 0, none⟩ = some (.int .u8 0) := HF.out.2.2.cell 0 _ rfl; have l1 : w4.cell? ⟨W3.heap.size, 1, none⟩ = some (.int .i64 0) := HF.out.2.2.cell 1 _ rfl; have l2 : w4.cell? ⟨W3.heap.size, 2, none⟩ = some (.string ⟨#[]⟩) := HF.out.2.2.cell 2 _ rfl; have l3 : w4.cell? ⟨W3.heap.size, 3, none⟩ = some (.int .u8 0) := HF.out.2.2.cell 3 _ rfl; have l4 : w4.cell? ⟨W3.heap.size, 4, none⟩ = some (.int .i64 0) := HF.out.2.2.cell 4 _ rfl; have l5 : w4.cell? ⟨W3.heap.size, 5, none⟩ = some (.string ⟨#[]⟩) := HF.out.2.2.cell 5 _ rfl; have l6 : w4.cell? ⟨W3.heap.size, 6, none⟩ = some (.int .i64 0) := HF.out.2.2.cell 6 _ rfl; have l7 : w4.cell? ⟨W3.heap.size, 7, none⟩ = some (.int .i64 0) := HF.out.2.2.cell 7 _ rfl; have n0 : w4.frozen? ⟨W3.heap.size, 0, none⟩ = false := HF.out.2.2.free 0; have n1 : w4.frozen? ⟨W3.heap.size, 1, none⟩ = false := HF.out.2.2.free 1; have n2 : w4.frozen? ⟨W3.heap.size, 2, none⟩ = false := HF.out.2.2.free 2; have n3 : w4.frozen? ⟨W3.heap.size, 3, none⟩ = false := HF.out.2.2.free 3; have n4 : w4.frozen? ⟨W3.heap.size, 4, none⟩ = false := HF.out.2.2.free 4; have n5 : w4.frozen? ⟨W3.heap.size, 5, none⟩ = false := HF.out.2.2.free 5; have n6 : w4.frozen? ⟨W3.heap.size, 6, none⟩ = false := HF.out.2.2.free 6; have n7 : w4.frozen? ⟨W3.heap.size, 7, none⟩ = false := HF.out.2.2.free 7))
          all_goals go_wp2_with fail
          all_goals go_meet
          all_goals exact ⟨_, rfl, HT.out⟩
        case rest =>
        obtain ⟨g, rfl, hz⟩ := hcut
        have HZ := Lib.hid hz
        clear hz
        go_wp2_with fail
        refine (refRInt_tk _ (w2.heap.size + 1) (tk m2).2.1 (tk m2).2.2 wc tk_bad_nil HZ.out.d).mono ?_
        rintro e w5 ⟨rfl, hd, ho⟩
        have HZ5 := Lib.hid (HZ.out.only hd ho tk_nil_of)
        have z7 : w5.cell? ⟨g, 7, none⟩ = some (.int .i64 0) := HZ5.out.z.cell 7 _ rfl
        have zf7 : w5.frozen? ⟨g, 7, none⟩ = false := HZ5.out.z.free 7
        have HZ6 := Lib.hid (HZ5.out.setM (zag (tk (tk m2).2.1).1))
        clear hd ho
        have HNUM := Lib.hid (fun hend => takeZ_of (k := k) (z := ⟨⟨ak, an, as'⟩, ⟨bk, bn, bs⟩, zag (tk m2).1, zag (tk (tk m2).2.1).1⟩) HTK.out HTK2.out (if_pos hend))
        have HNO := Lib.hid (fun hend => takeZ_none3 (k := k) HTK.out HTK2.out hend)
        have HHE := Lib.hid (show ∀ c l, (if c = false ∧ (l : List UInt8).length = 0 then (0 : Int) else 6) = if c = false ∧ l.length = 0 then (0 : Int) else 6 from fun _ _ => rfl)
        go_upto_region 12 with fail
        generalize w5.setCell ⟨g, 7, none⟩ (.int .i64 (zag (tk (tk m2).2.1).1)) = W at HZ6 ⊢
        clear z7 zf7 HHE
        have HEND := Lib.hid (fun W' (hx : Ext W W') => refEnd_anyP _ (w2.heap.size + 1) (tk (tk m2).2.1).2.1 (tk (tk m2).2.1).2.2 W' ((HZ6.out.ext hx).d))
        generalize zag (tk m2).1 = n1 at HZ6 HNUM
        generalize zag (tk (tk m2).2.1).1 = n2 at HZ6 HNUM
        generalize (tk (tk m2).2.1).2.2 = c2 at HEND HNUM HNO
        generalize (tk (tk m2).2.1).2.1 = l2 at HEND HNUM HNO
        clear HZ HZ5
        by_cases hend : c2 = false ∧ l2.length = 0
        · have HQ := Lib.hid (HNUM.out hend)
          rw [if_pos hend] at HEND
          clear HNUM HNO hend
          have HR := Lib.hid (fun W => HRZ.out _ W HQ.out.1 ⟨Nat.le_trans HQ.out.2.1.1 (by decide), Nat.le_trans HQ.out.2.1.2 (by decide)⟩)
          have HPUT := Lib.hid (fun W => refPutZ_any _ W HQ.out.1 ⟨Nat.le_trans HQ.out.2.1.1 (by decide), Nat.le_trans HQ.out.2.1.2 (by decide)⟩)
          rw [HQ.out.2.2.1] at HPUT
          unfold Zo.val at HR HPUT
          simp only at HR HPUT
          have HUW := Lib.hid (show Rd W (.slice ua L uc) b from by have := HU.out.mono HZ6.out.x; rw [HL.out] at this; exact this)
          by_cases hr : rightZ k ⟨⟨ak, an, as'⟩, ⟨bk, bn, bs⟩, n1, n2⟩
          · rw [decide_eq_true hr] at HR
            have HT := Lib.hid (HQ.out.2.2.2.trans (if_pos hr))
            clear hr
            have p0 := later_cell (w := W) (b := g) (fun j u hj => HZ6.out.z.cell j u hj) 0 (.int .u8 ak) rfl
            have p1 := later_cell (w := W) (b := g) (fun j u hj => HZ6.out.z.cell j u hj) 1 (.int .i64 an) rfl
            have p2 := later_cell (w := W) (b := g) (fun j u hj => HZ6.out.z.cell j u hj) 2 (.string ⟨as'.toArray⟩) rfl
            have p3 := later_cell (w := W) (b := g) (fun j u hj => HZ6.out.z.cell j u hj) 3 (.int .u8 bk) rfl
            have p4 := later_cell (w := W) (b := g) (fun j u hj => HZ6.out.z.cell j u hj) 4 (.int .i64 bn) rfl
            have p5 := later_cell (w := W) (b := g) (fun j u hj => HZ6.out.z.cell j u hj) 5 (.string ⟨bs.toArray⟩) rfl
            have p6 := later_cell (w := W) (b := g) (fun j u hj => HZ6.out.z.cell j u hj) 6 (.int .i64 n1) rfl
            have p7 := later_cell (w := W) (b := g) (fun j u hj => HZ6.out.z.cell j u hj) 7 (.int .i64 n2) rfl
            have hcu := str_later HUW.out
            refine wp_region_segs Ext Ext.keeps [([0], some 1), ([2, 3, 4, 5], some 6), ([7, 8, 9, 10, 13, 14], some 11), ([12, 15, 16], none)] (by kernel_rfl) (by kernel_rfl) (fun c a a' w e h => (by exact ⟨e ▸ h.1, h.2⟩)) ?_
            simp only [pickSegs, pickOps, List.map_cons, List.map_nil, Option.map_some, Option.map_none, Option.getD_some, List.getElem?_toArray, List.getElem?_cons_zero, List.getElem?_cons_succ]
            refine wpSegs_some fun K hK => ?_
            repeat go_big_quiet_step (fail)
            refine wpQuiet_nil ?_
            go_wp2_with fail
            refine (HEND.out _ (Ext.drew W)).mono ?_
            rintro e w6 ⟨rfl, rfl⟩
            go_wp2_with fail
            refine ⟨Ext.keeps.refl _, hK _ _ ?_⟩
            clear hK K
            refine wpSegs_some fun K hK => ?_
            repeat go_big_quiet_step (fail)
            refine wpQuiet_nil ?_
            go_wp2_with fail
            refine (HR.out _).mono ?_
            rintro e w7 ⟨rfl, hx⟩
            have HX7 := Lib.hid hx
            have HZ7 := Lib.hid (HZ6.out.ext (Ext.trans (Ext.drew W) hx))
            clear hx p0 p1 p2 p3 p4 p5 p6 p7 hcu
            go_wp2_with fail
            refine ⟨HX7.out, hK _ _ ?_⟩
            clear hK K
            refine wpSegs_some fun K hK => ?_
            have p0 := now_cell (w := w7) (b := g) (fun j u hj => HZ7.out.z.cell j u hj) 0 (.int .u8 ak) rfl
            have p1 := now_cell (w := w7) (b := g) (fun j u hj => HZ7.out.z.cell j u hj) 1 (.int .i64 an) rfl
            have p2 := now_cell (w := w7) (b := g) (fun j u hj => HZ7.out.z.cell j u hj) 2 (.string ⟨as'.toArray⟩) rfl
            have p3 := now_cell (w := w7) (b := g) (fun j u hj => HZ7.out.z.cell j u hj) 3 (.int .u8 bk) rfl
            have p4 := now_cell (w := w7) (b := g) (fun j u hj => HZ7.out.z.cell j u hj) 4 (.int .i64 bn) rfl
            have p5 := now_cell (w := w7) (b := g) (fun j u hj => HZ7.out.z.cell j u hj) 5 (.string ⟨bs.toArray⟩) rfl
            have p6 := now_cell (w := w7) (b := g) (fun j u hj => HZ7.out.z.cell j u hj) 6 (.int .i64 n1) rfl
            have p7 := now_cell (w := w7) (b := g) (fun j u hj => HZ7.out.z.cell j u hj) 7 (.int .i64 n2) rfl
            have hcu : ∀ z : Later Ext w7, (convert 33 9 (.slice ua L uc)).run Try.prog z.val = .ok (.string ⟨b.toArray⟩) z.val := fun z => str_of ((HUW.out.mono (Ext.trans (Ext.drew W) HX7.out)).mono z.ext)
            repeat go_big_quiet_step (fail)
            refine wpQuiet_nil ?_
            clear p0 p1 p2 p3 p4 p5 p6 p7 hcu
            go_wp2_with fail
            refine (HPUT.out _).mono ?_
            rintro e w8 ⟨y, rfl, ho, hx⟩
            have HX8 := Lib.hid hx
            have HZ8 := Lib.hid (HZ7.out.ext hx)
            have HY8 := Lib.hid (RdV.of_owns ho)
            clear hx ho
            go_wp2_with fail
            refine ⟨HX8.out, hK _ _ ?_⟩
            clear hK K
            have hcy : ∀ z : Later Ext w8, (convert 33 9 y).run Try.prog z.val = .ok (.string ⟨b.toArray⟩) z.val := fun z => str_of (Rd.mono HY8.out z.ext)
            refine wpSegs_none ?_
            repeat go_big_quiet_step (fail)
            refine wpQuiet_nil (wpSegs_nil ?_)
            clear hcy
            have p0 : w8.cell? ⟨g, 0, none⟩ = some (.int .u8 ak) := HZ8.out.z.cell 0 _ rfl
            have p1 : w8.cell? ⟨g, 1, none⟩ = some (.int .i64 an) := HZ8.out.z.cell 1 _ rfl
            have p2 : w8.cell? ⟨g, 2, none⟩ = some (.string ⟨as'.toArray⟩) := HZ8.out.z.cell 2 _ rfl
            have p3 : w8.cell? ⟨g, 3, none⟩ = some (.int .u8 bk) := HZ8.out.z.cell 3 _ rfl
            have p4 : w8.cell? ⟨g, 4, none⟩ = some (.int .i64 bn) := HZ8.out.z.cell 4 _ rfl
            have p5 : w8.cell? ⟨g, 5, none⟩ = some (.string ⟨bs.toArray⟩) := HZ8.out.z.cell 5 _ rfl
            have p6 : w8.cell? ⟨g, 6, none⟩ = some (.int .i64 n1) := HZ8.out.z.cell 6 _ rfl
            have p7 : w8.cell? ⟨g, 7, none⟩ = some (.int .i64 n2) := HZ8.out.z.cell 7 _ rfl
            have r0 : w8.cell? ⟨w.heap.size, 0, none⟩ = some (.int .u8 0) := HZ8.out.r.cell 0 _ rfl
            have r1 : w8.cell? ⟨w.heap.size, 1, none⟩ = some (.int .i64 0) := HZ8.out.r.cell 1 _ rfl
            have r2 : w8.cell? ⟨w.heap.size, 2, none⟩ = some (.string ⟨#[]⟩) := HZ8.out.r.cell 2 _ rfl
            have r3 : w8.cell? ⟨w.heap.size, 3, none⟩ = some (.int .u8 0) := HZ8.out.r.cell 3 _ rfl
            have r4 : w8.cell? ⟨w.heap.size, 4, none⟩ = some (.int .i64 0) := HZ8.out.r.cell 4 _ rfl
            have r5 : w8.cell? ⟨w.heap.size, 5, none⟩ = some (.string ⟨#[]⟩) := HZ8.out.r.cell 5 _ rfl
            have r6 : w8.cell? ⟨w.heap.size, 6, none⟩ = some (.int .i64 0) := HZ8.out.r.cell 6 _ rfl
            have r7 : w8.cell? ⟨w.heap.size, 7, none⟩ = some (.int .i64 0) := HZ8.out.r.cell 7 _ rfl
            have f0 : w8.frozen? ⟨w.heap.size, 0, none⟩ = false := HZ8.out.r.free 0
            have f1 : w8.frozen? ⟨w.heap.size, 1, none⟩ = false := HZ8.out.r.free 1
            have f2 : w8.frozen? ⟨w.heap.size, 2, none⟩ = false := HZ8.out.r.free 2
            have f3 : w8.frozen? ⟨w.heap.size, 3, none⟩ = false := HZ8.out.r.free 3
            have f4 : w8.frozen? ⟨w.heap.size, 4, none⟩ = false := HZ8.out.r.free 4
            have f5 : w8.frozen? ⟨w.heap.size, 5, none⟩ = false := HZ8.out.r.free 5
            have f6 : w8.frozen? ⟨w.heap.size, 6, none⟩ = false := HZ8.out.r.free 6
            have f7 : w8.frozen? ⟨w.heap.size, 7, none⟩ = false := HZ8.out.r.free 7
            go_wp2_with fail
            have HP := Lib.hid (HZ8.out.r.put8 ⟨⟨ak, an, as'⟩, ⟨bk, bn, bs⟩, n1, n2⟩)
            have s0 := HP.out.cell 0 (.int .u8 ak) rfl
            have s1 := HP.out.cell 1 (.int .i64 an) rfl
            have s2 := HP.out.cell 2 (.string ⟨as'.toArray⟩) rfl
            have s3 := HP.out.cell 3 (.int .u8 bk) rfl
            have s4 := HP.out.cell 4 (.int .i64 bn) rfl
            have s5 := HP.out.cell 5 (.string ⟨bs.toArray⟩) rfl
            have s6 := HP.out.cell 6 (.int .i64 n1) rfl
            have s7 := HP.out.cell 7 (.int .i64 n2) rfl
            simp only [put8] at s0 s1 s2 s3 s4 s5 s6 s7
            refine bodyPost_ret (v := .tuple #[.agg #[.int .u8 ak, .int .i64 an, .string ⟨as'.toArray⟩, .int .u8 bk, .int .i64 bn, .string ⟨bs.toArray⟩, .int .i64 n1, .int .i64 n2], .int .i64 0]) (by simp [results, Try.results17, go_sem, s0, s1, s2, s3, s4, s5, s6, s7]) rfl ⟨by rw [HT.out]; rfl, below_put8 HZ8.out.x (Nat.le_refl _) ⟨⟨ak, an, as'⟩, ⟨bk, bn, bs⟩, n1, n2⟩⟩
          · rw [decide_eq_false hr] at HR
            have HT := Lib.hid (HQ.out.2.2.2.trans (if_neg hr))
            clear hr
            have p0 := later_cell (w := W) (b := g) (fun j u hj => HZ6.out.z.cell j u hj) 0 (.int .u8 ak) rfl
            have p1 := later_cell (w := W) (b := g) (fun j u hj => HZ6.out.z.cell j u hj) 1 (.int .i64 an) rfl
            have p2 := later_cell (w := W) (b := g) (fun j u hj => HZ6.out.z.cell j u hj) 2 (.string ⟨as'.toArray⟩) rfl
            have p3 := later_cell (w := W) (b := g) (fun j u hj => HZ6.out.z.cell j u hj) 3 (.int .u8 bk) rfl
            have p4 := later_cell (w := W) (b := g) (fun j u hj => HZ6.out.z.cell j u hj) 4 (.int .i64 bn) rfl
            have p5 := later_cell (w := W) (b := g) (fun j u hj => HZ6.out.z.cell j u hj) 5 (.string ⟨bs.toArray⟩) rfl
            have p6 := later_cell (w := W) (b := g) (fun j u hj => HZ6.out.z.cell j u hj) 6 (.int .i64 n1) rfl
            have p7 := later_cell (w := W) (b := g) (fun j u hj => HZ6.out.z.cell j u hj) 7 (.int .i64 n2) rfl
            refine wp_region_segs Ext Ext.keeps [([0], some 1), ([2, 3, 4, 5], some 6), ([7, 8, 9, 10, 13, 14], some 11), ([12, 15, 16], none)] (by kernel_rfl) (by kernel_rfl) (fun c a a' w e h => (by exact ⟨e ▸ h.1, h.2⟩)) ?_
            simp only [pickSegs, pickOps, List.map_cons, List.map_nil, Option.map_some, Option.map_none, Option.getD_some, List.getElem?_toArray, List.getElem?_cons_zero, List.getElem?_cons_succ]
            refine wpSegs_some fun K hK => ?_
            repeat go_big_quiet_step (fail)
            refine wpQuiet_nil ?_
            go_wp2_with fail
            refine (HEND.out _ (Ext.drew W)).mono ?_
            rintro e w6 ⟨rfl, rfl⟩
            go_wp2_with fail
            refine ⟨Ext.keeps.refl _, hK _ _ ?_⟩
            clear hK K
            refine wpSegs_some fun K hK => ?_
            repeat go_big_quiet_step (fail)
            refine wpQuiet_nil ?_
            go_wp2_with fail
            refine (HR.out _).mono ?_
            rintro e w7 ⟨rfl, hx⟩
            have HX7 := Lib.hid hx
            have HZ7 := Lib.hid (HZ6.out.ext (Ext.trans (Ext.drew W) hx))
            clear hx p0 p1 p2 p3 p4 p5 p6 p7
            go_wp2_with fail
            refine ⟨HX7.out, hK _ _ ?_⟩
            clear hK K
            refine wpSegs_some fun K hK => ?_
            repeat go_big_quiet_step (fail)
            refine wpQuiet_nil ?_
            go_wp2_with fail
            refine ⟨Ext.keeps.refl _, hK _ _ ?_⟩
            clear hK K
            refine wpSegs_none ?_
            repeat go_big_quiet_step (fail)
            refine wpQuiet_nil (wpSegs_nil ?_)
            have r0 : w7.cell? ⟨w.heap.size, 0, none⟩ = some (.int .u8 0) := HZ7.out.r.cell 0 _ rfl
            have r1 : w7.cell? ⟨w.heap.size, 1, none⟩ = some (.int .i64 0) := HZ7.out.r.cell 1 _ rfl
            have r2 : w7.cell? ⟨w.heap.size, 2, none⟩ = some (.string ⟨#[]⟩) := HZ7.out.r.cell 2 _ rfl
            have r3 : w7.cell? ⟨w.heap.size, 3, none⟩ = some (.int .u8 0) := HZ7.out.r.cell 3 _ rfl
            have r4 : w7.cell? ⟨w.heap.size, 4, none⟩ = some (.int .i64 0) := HZ7.out.r.cell 4 _ rfl
            have r5 : w7.cell? ⟨w.heap.size, 5, none⟩ = some (.string ⟨#[]⟩) := HZ7.out.r.cell 5 _ rfl
            have r6 : w7.cell? ⟨w.heap.size, 6, none⟩ = some (.int .i64 0) := HZ7.out.r.cell 6 _ rfl
            have r7 : w7.cell? ⟨w.heap.size, 7, none⟩ = some (.int .i64 0) := HZ7.out.r.cell 7 _ rfl
            have f0 : w7.frozen? ⟨w.heap.size, 0, none⟩ = false := HZ7.out.r.free 0
            have f1 : w7.frozen? ⟨w.heap.size, 1, none⟩ = false := HZ7.out.r.free 1
            have f2 : w7.frozen? ⟨w.heap.size, 2, none⟩ = false := HZ7.out.r.free 2
            have f3 : w7.frozen? ⟨w.heap.size, 3, none⟩ = false := HZ7.out.r.free 3
            have f4 : w7.frozen? ⟨w.heap.size, 4, none⟩ = false := HZ7.out.r.free 4
            have f5 : w7.frozen? ⟨w.heap.size, 5, none⟩ = false := HZ7.out.r.free 5
            have f6 : w7.frozen? ⟨w.heap.size, 6, none⟩ = false := HZ7.out.r.free 6
            have f7 : w7.frozen? ⟨w.heap.size, 7, none⟩ = false := HZ7.out.r.free 7
            go_wp2_with fail
            have HP := Lib.hid (HZ7.out.r.put8 Zo.zero)
            have s0 := HP.out.cell 0 (.int .u8 0) rfl
            have s1 := HP.out.cell 1 (.int .i64 0) rfl
            have s2 := HP.out.cell 2 (.string ⟨#[]⟩) rfl
            have s3 := HP.out.cell 3 (.int .u8 0) rfl
            have s4 := HP.out.cell 4 (.int .i64 0) rfl
            have s5 := HP.out.cell 5 (.string ⟨#[]⟩) rfl
            have s6 := HP.out.cell 6 (.int .i64 0) rfl
            have s7 := HP.out.cell 7 (.int .i64 0) rfl
            simp only [put8, Zo.zero, V.zero] at s0 s1 s2 s3 s4 s5 s6 s7
            refine bodyPost_ret (v := .tuple #[Zo.zero.val, .int .i64 6]) (by simp [results, Try.results17, go_sem, Zo.val, Zo.zero, V.zero, s0, s1, s2, s3, s4, s5, s6, s7]) rfl ⟨by rw [HT.out], below_put8 HZ7.out.x (Nat.le_refl _) Zo.zero⟩
        · rw [if_neg hend] at HEND
          have HT := Lib.hid (HNO.out hend)
          clear HNUM HNO hend
          refine wp_region_segs Ext Ext.keeps [([0], some 1), ([2, 3, 4, 5], some 6), ([7, 8, 9, 10, 13, 14], some 11), ([12, 15, 16], none)] (by kernel_rfl) (by kernel_rfl) (fun c a a' w e h => (by exact ⟨e ▸ h.1, h.2⟩)) ?_
          simp only [pickSegs, pickOps, List.map_cons, List.map_nil, Option.map_some, Option.map_none, Option.getD_some, List.getElem?_toArray, List.getElem?_cons_zero, List.getElem?_cons_succ]
          refine wpSegs_some fun K hK => ?_
          repeat go_big_quiet_step (fail)
          refine wpQuiet_nil ?_
          go_wp2_with fail
          refine (HEND.out _ (Ext.drew W)).mono ?_
          rintro e w6 ⟨rfl, rfl⟩
          go_wp2_with fail
          refine ⟨Ext.keeps.refl _, hK _ _ ?_⟩
          clear hK K
          refine wpSegs_some fun K hK => ?_
          repeat go_big_quiet_step (fail)
          refine wpQuiet_nil ?_
          go_wp2_with fail
          refine ⟨Ext.keeps.refl _, hK _ _ ?_⟩
          clear hK K
          refine wpSegs_some fun K hK => ?_
          repeat go_big_quiet_step (fail)
          refine wpQuiet_nil ?_
          go_wp2_with fail
          refine ⟨Ext.keeps.refl _, hK _ _ ?_⟩
          clear hK K
          refine wpSegs_none ?_
          repeat go_big_quiet_step (fail)
          refine wpQuiet_nil (wpSegs_nil ?_)
          have HZ7 := Lib.hid (HZ6.out.ext (Ext.drew W))
          have r0 : W.cell? ⟨w.heap.size, 0, none⟩ = some (.int .u8 0) := HZ6.out.r.cell 0 _ rfl
          have r1 : W.cell? ⟨w.heap.size, 1, none⟩ = some (.int .i64 0) := HZ6.out.r.cell 1 _ rfl
          have r2 : W.cell? ⟨w.heap.size, 2, none⟩ = some (.string ⟨#[]⟩) := HZ6.out.r.cell 2 _ rfl
          have r3 : W.cell? ⟨w.heap.size, 3, none⟩ = some (.int .u8 0) := HZ6.out.r.cell 3 _ rfl
          have r4 : W.cell? ⟨w.heap.size, 4, none⟩ = some (.int .i64 0) := HZ6.out.r.cell 4 _ rfl
          have r5 : W.cell? ⟨w.heap.size, 5, none⟩ = some (.string ⟨#[]⟩) := HZ6.out.r.cell 5 _ rfl
          have r6 : W.cell? ⟨w.heap.size, 6, none⟩ = some (.int .i64 0) := HZ6.out.r.cell 6 _ rfl
          have r7 : W.cell? ⟨w.heap.size, 7, none⟩ = some (.int .i64 0) := HZ6.out.r.cell 7 _ rfl
          have f0 : W.frozen? ⟨w.heap.size, 0, none⟩ = false := HZ6.out.r.free 0
          have f1 : W.frozen? ⟨w.heap.size, 1, none⟩ = false := HZ6.out.r.free 1
          have f2 : W.frozen? ⟨w.heap.size, 2, none⟩ = false := HZ6.out.r.free 2
          have f3 : W.frozen? ⟨w.heap.size, 3, none⟩ = false := HZ6.out.r.free 3
          have f4 : W.frozen? ⟨w.heap.size, 4, none⟩ = false := HZ6.out.r.free 4
          have f5 : W.frozen? ⟨w.heap.size, 5, none⟩ = false := HZ6.out.r.free 5
          have f6 : W.frozen? ⟨w.heap.size, 6, none⟩ = false := HZ6.out.r.free 6
          have f7 : W.frozen? ⟨w.heap.size, 7, none⟩ = false := HZ6.out.r.free 7
          go_wp2_with fail
          have HP := Lib.hid (HZ6.out.r.put8 Zo.zero)
          have s0 := HP.out.cell 0 (.int .u8 0) rfl
          have s1 := HP.out.cell 1 (.int .i64 0) rfl
          have s2 := HP.out.cell 2 (.string ⟨#[]⟩) rfl
          have s3 := HP.out.cell 3 (.int .u8 0) rfl
          have s4 := HP.out.cell 4 (.int .i64 0) rfl
          have s5 := HP.out.cell 5 (.string ⟨#[]⟩) rfl
          have s6 := HP.out.cell 6 (.int .i64 0) rfl
          have s7 := HP.out.cell 7 (.int .i64 0) rfl
          simp only [put8, Zo.zero, V.zero] at s0 s1 s2 s3 s4 s5 s6 s7
          refine bodyPost_ret (v := .tuple #[Zo.zero.val, .int .i64 6]) (by simp [results, Try.results17, go_sem, Zo.val, Zo.zero, V.zero, s0, s1, s2, s3, s4, s5, s6, s7]) rfl ⟨by rw [HT.out], Ext.trans (below_put8 HZ6.out.x (Nat.le_refl _) Zo.zero) (Ext.drew _)⟩
      · have HT := Lib.hid (takeZ_none2 (k := k) HTK.out hno)
        have HB2 := Lib.hid ((HB1.out.ext HN1.out).ext hx)
        have HX2 := Lib.hid (Ext.trans (Ext.trans HX1.out HN1.out) hx)
        clear hno hx
        have r0 : ∀ o, (w2.alloc o).cell? ⟨w.heap.size, 0, none⟩ = some (.int .u8 0) := fun o => (HB2.out.ext (ext_new w2 o)).cell 0 _ rfl
        have r1 : ∀ o, (w2.alloc o).cell? ⟨w.heap.size, 1, none⟩ = some (.int .i64 0) := fun o => (HB2.out.ext (ext_new w2 o)).cell 1 _ rfl
        have r2 : ∀ o, (w2.alloc o).cell? ⟨w.heap.size, 2, none⟩ = some (.string ⟨#[]⟩) := fun o => (HB2.out.ext (ext_new w2 o)).cell 2 _ rfl
        have r3 : ∀ o, (w2.alloc o).cell? ⟨w.heap.size, 3, none⟩ = some (.int .u8 0) := fun o => (HB2.out.ext (ext_new w2 o)).cell 3 _ rfl
        have r4 : ∀ o, (w2.alloc o).cell? ⟨w.heap.size, 4, none⟩ = some (.int .i64 0) := fun o => (HB2.out.ext (ext_new w2 o)).cell 4 _ rfl
        have r5 : ∀ o, (w2.alloc o).cell? ⟨w.heap.size, 5, none⟩ = some (.string ⟨#[]⟩) := fun o => (HB2.out.ext (ext_new w2 o)).cell 5 _ rfl
        have r6 : ∀ o, (w2.alloc o).cell? ⟨w.heap.size, 6, none⟩ = some (.int .i64 0) := fun o => (HB2.out.ext (ext_new w2 o)).cell 6 _ rfl
        have r7 : ∀ o, (w2.alloc o).cell? ⟨w.heap.size, 7, none⟩ = some (.int .i64 0) := fun o => (HB2.out.ext (ext_new w2 o)).cell 7 _ rfl
        have f0 : ∀ o, (w2.alloc o).frozen? ⟨w.heap.size, 0, none⟩ = false := fun o => (HB2.out.ext (ext_new w2 o)).free 0
        have f1 : ∀ o, (w2.alloc o).frozen? ⟨w.heap.size, 1, none⟩ = false := fun o => (HB2.out.ext (ext_new w2 o)).free 1
        have f2 : ∀ o, (w2.alloc o).frozen? ⟨w.heap.size, 2, none⟩ = false := fun o => (HB2.out.ext (ext_new w2 o)).free 2
        have f3 : ∀ o, (w2.alloc o).frozen? ⟨w.heap.size, 3, none⟩ = false := fun o => (HB2.out.ext (ext_new w2 o)).free 3
        have f4 : ∀ o, (w2.alloc o).frozen? ⟨w.heap.size, 4, none⟩ = false := fun o => (HB2.out.ext (ext_new w2 o)).free 4
        have f5 : ∀ o, (w2.alloc o).frozen? ⟨w.heap.size, 5, none⟩ = false := fun o => (HB2.out.ext (ext_new w2 o)).free 5
        have f6 : ∀ o, (w2.alloc o).frozen? ⟨w.heap.size, 6, none⟩ = false := fun o => (HB2.out.ext (ext_new w2 o)).free 6
        have f7 : ∀ o, (w2.alloc o).frozen? ⟨w.heap.size, 7, none⟩ = false := fun o => (HB2.out.ext (ext_new w2 o)).free 7
        go_wp2_with fail
        have HP := Lib.hid ((HB2.out.ext (ext_new w2 (.cells #[.int .u8 0, .int .i64 0, .string ⟨#[]⟩] 24))).put8 Zo.zero)
        have p0 := HP.out.cell 0 (.int .u8 0) rfl
        have p1 := HP.out.cell 1 (.int .i64 0) rfl
        have p2 := HP.out.cell 2 (.string ⟨#[]⟩) rfl
        have p3 := HP.out.cell 3 (.int .u8 0) rfl
        have p4 := HP.out.cell 4 (.int .i64 0) rfl
        have p5 := HP.out.cell 5 (.string ⟨#[]⟩) rfl
        have p6 := HP.out.cell 6 (.int .i64 0) rfl
        have p7 := HP.out.cell 7 (.int .i64 0) rfl
        simp only [put8, Zo.zero, V.zero] at p0 p1 p2 p3 p4 p5 p6 p7
        refine bodyPost_ret (v := .tuple #[Zo.zero.val, .int .i64 6]) (by simp [results, Try.results17, go_sem, Zo.val, Zo.zero, V.zero, p0, p1, p2, p3, p4, p5, p6, p7]) rfl ⟨by rw [HT.out], below_put8 (Ext.trans HX2.out (ext_new w2 _)) (Nat.le_refl _) Zo.zero⟩
    · have HT := Lib.hid (takeZ_none1 (k := k) hno)
      have HB1 := Lib.hid (HB0.out.ext hx)
      have HX1 := Lib.hid (Ext.trans HX0.out hx)
      clear hno hx
      have r0 : ∀ o, (w1.alloc o).cell? ⟨w.heap.size, 0, none⟩ = some (.int .u8 0) := fun o => (HB1.out.ext (ext_new w1 o)).cell 0 _ rfl
      have r1 : ∀ o, (w1.alloc o).cell? ⟨w.heap.size, 1, none⟩ = some (.int .i64 0) := fun o => (HB1.out.ext (ext_new w1 o)).cell 1 _ rfl
      have r2 : ∀ o, (w1.alloc o).cell? ⟨w.heap.size, 2, none⟩ = some (.string ⟨#[]⟩) := fun o => (HB1.out.ext (ext_new w1 o)).cell 2 _ rfl
      have r3 : ∀ o, (w1.alloc o).cell? ⟨w.heap.size, 3, none⟩ = some (.int .u8 0) := fun o => (HB1.out.ext (ext_new w1 o)).cell 3 _ rfl
      have r4 : ∀ o, (w1.alloc o).cell? ⟨w.heap.size, 4, none⟩ = some (.int .i64 0) := fun o => (HB1.out.ext (ext_new w1 o)).cell 4 _ rfl
      have r5 : ∀ o, (w1.alloc o).cell? ⟨w.heap.size, 5, none⟩ = some (.string ⟨#[]⟩) := fun o => (HB1.out.ext (ext_new w1 o)).cell 5 _ rfl
      have r6 : ∀ o, (w1.alloc o).cell? ⟨w.heap.size, 6, none⟩ = some (.int .i64 0) := fun o => (HB1.out.ext (ext_new w1 o)).cell 6 _ rfl
      have r7 : ∀ o, (w1.alloc o).cell? ⟨w.heap.size, 7, none⟩ = some (.int .i64 0) := fun o => (HB1.out.ext (ext_new w1 o)).cell 7 _ rfl
      have f0 : ∀ o, (w1.alloc o).frozen? ⟨w.heap.size, 0, none⟩ = false := fun o => (HB1.out.ext (ext_new w1 o)).free 0
      have f1 : ∀ o, (w1.alloc o).frozen? ⟨w.heap.size, 1, none⟩ = false := fun o => (HB1.out.ext (ext_new w1 o)).free 1
      have f2 : ∀ o, (w1.alloc o).frozen? ⟨w.heap.size, 2, none⟩ = false := fun o => (HB1.out.ext (ext_new w1 o)).free 2
      have f3 : ∀ o, (w1.alloc o).frozen? ⟨w.heap.size, 3, none⟩ = false := fun o => (HB1.out.ext (ext_new w1 o)).free 3
      have f4 : ∀ o, (w1.alloc o).frozen? ⟨w.heap.size, 4, none⟩ = false := fun o => (HB1.out.ext (ext_new w1 o)).free 4
      have f5 : ∀ o, (w1.alloc o).frozen? ⟨w.heap.size, 5, none⟩ = false := fun o => (HB1.out.ext (ext_new w1 o)).free 5
      have f6 : ∀ o, (w1.alloc o).frozen? ⟨w.heap.size, 6, none⟩ = false := fun o => (HB1.out.ext (ext_new w1 o)).free 6
      have f7 : ∀ o, (w1.alloc o).frozen? ⟨w.heap.size, 7, none⟩ = false := fun o => (HB1.out.ext (ext_new w1 o)).free 7
      go_wp2_with fail
      have HP := Lib.hid ((HB1.out.ext (ext_new w1 (.cells #[.int .u8 0, .int .i64 0, .string ⟨#[]⟩] 24))).put8 Zo.zero)
      have p0 := HP.out.cell 0 (.int .u8 0) rfl
      have p1 := HP.out.cell 1 (.int .i64 0) rfl
      have p2 := HP.out.cell 2 (.string ⟨#[]⟩) rfl
      have p3 := HP.out.cell 3 (.int .u8 0) rfl
      have p4 := HP.out.cell 4 (.int .i64 0) rfl
      have p5 := HP.out.cell 5 (.string ⟨#[]⟩) rfl
      have p6 := HP.out.cell 6 (.int .i64 0) rfl
      have p7 := HP.out.cell 7 (.int .i64 0) rfl
      simp only [put8, Zo.zero, V.zero] at p0 p1 p2 p3 p4 p5 p6 p7
      refine bodyPost_ret (v := .tuple #[Zo.zero.val, .int .i64 6]) (by simp [results, Try.results17, go_sem, Zo.val, Zo.zero, V.zero, p0, p1, p2, p3, p4, p5, p6, p7]) rfl ⟨by rw [HT.out], below_put8 (Ext.trans HX1.out (ext_new w1 _)) (Nat.le_refl _) Zo.zero⟩
  · rw [decide_eq_false h13] at HK
    rw [show takenZ k b = (Zo.zero, 1) from if_pos h13]
    clear h13 hk
    go_enter Try.func17, Try.ntmps17
    go_wp2_with fail
    refine (HK.out _).mono ?_
    rintro e w1 ⟨rfl, rfl⟩
    have k0 := HB0.out.cell 0 _ rfl
    have k1 := HB0.out.cell 1 _ rfl
    have k2 := HB0.out.cell 2 _ rfl
    have k3 := HB0.out.cell 3 _ rfl
    have k4 := HB0.out.cell 4 _ rfl
    have k5 := HB0.out.cell 5 _ rfl
    have k6 := HB0.out.cell 6 _ rfl
    have k7 := HB0.out.cell 7 _ rfl
    go_wp2_with fail
    refine bodyPost_ret (v := .tuple #[Zo.zero.val, .int .i64 1]) (by simp [results, Try.results17, go_sem, Zo.val, Zo.zero, V.zero]) rfl ⟨rfl, HX0.out⟩

end Go.Proofs.Ytlbilmmjcfiokaa
