/-
  The contracts of the document's own zones: Merge.
-/
import Derived.Deep.CutRange
import Derived.Deep.DeepCutAuto
import Derived.Test.YtlbilmmjcfiokaaZonePure
import Derived.Test.YtlbilmmjcfiokaaCellRefC
import Derived.Test.YtlbilmmjcfiokaaCellEq
import Derived.Test.YtlbilmmjcfiokaaOnly
namespace Go.Proofs.Ytlbilmmjcfiokaa
open Go.RowKit Go.BigFrame

/-- A block with these cells. -/
def Blk (W : World) (b : Nat) (xs : List Value) (t : TypeId) : Prop := W.heap[b]? = some (.cells xs.toArray t (0, 0))
theorem Blk.cell {W : World} {b : Nat} {xs : List Value} {t : TypeId} (h : Blk W b xs t) (j : Nat) (u : Value) (hj : xs[j]? = some u) : W.cell? ⟨b, j, none⟩ = some u := by
  unfold World.cell?
  rw [show W.heap[b]? = _ from h]
  simpa using hj
theorem Blk.free {W : World} {b : Nat} {xs : List Value} {t : TypeId} (h : Blk W b xs t) (j : Nat) : W.frozen? ⟨b, j, none⟩ = false := by
  unfold World.frozen?
  rw [show W.heap[b]? = _ from h]
  simp
theorem Blk.lt {W : World} {b : Nat} {xs : List Value} {t : TypeId} (h : Blk W b xs t) : b < W.heap.size := (Array.getElem?_eq_some_iff.1 h).1
theorem Blk.ext {W W' : World} {b : Nat} {xs : List Value} {t : TypeId} (h : Blk W b xs t) (hx : Ext W W') : Blk W' b xs t := (hx.block b h.lt).trans h
theorem Blk.new (W : World) (xs : List Value) (t : TypeId) : Blk (W.alloc (.cells xs.toArray t)) W.heap.size xs t := heap_alloc_new _ _
theorem Blk.set {W : World} {b : Nat} {xs : List Value} {t : TypeId} (h : Blk W b xs t) (j : Nat) (u : Value) : Blk (W.setCell ⟨b, j, none⟩ u) b (xs.set j u) t := by
  unfold Blk at *
  simp [World.setCell, Array.getElem?_modify, h]
theorem Blk.beside {W : World} {b b' : Nat} {xs : List Value} {t : TypeId} (h : Blk W b xs t) (hne : b ≠ b') (j : Nat) (u : Value) : Blk (W.setCell ⟨b', j, none⟩ u) b xs t := by
  unfold Blk at *
  rw [Below.heap_setCell _ _ _ _ hne]
  exact h

/-- Where Merge stands: both zones, the answer's place, the zone under way. -/
structure MZ (w : World) (p q r z : Zo) (W : World) : Prop where
  p : Blk W w.heap.size p.cells 26
  q : Blk W (w.heap.size + 1) q.cells 26
  r : Blk W (w.heap.size + 1 + 1) r.cells 26
  z : Blk W (w.heap.size + 1 + 1 + 1) z.cells 26
  x : Ext w W
theorem MZ.ext {w : World} {p q r z : Zo} {W W' : World} (h : MZ w p q r z W) (hx : Ext W W') : MZ w p q r z W' := ⟨h.p.ext hx, h.q.ext hx, h.r.ext hx, h.z.ext hx, Ext.trans h.x hx⟩
theorem MZ.start (w : World) (p q r z : Zo) : MZ w p q r z ((((w.alloc (.cells p.cells.toArray 26)).alloc (.cells q.cells.toArray 26)).alloc (.cells r.cells.toArray 26)).alloc (.cells z.cells.toArray 26)) := by
  have h1 := Blk.new w p.cells 26
  have h2 := Blk.new (w.alloc (.cells p.cells.toArray 26)) q.cells 26
  have h3 := Blk.new ((w.alloc (.cells p.cells.toArray 26)).alloc (.cells q.cells.toArray 26)) r.cells 26
  have h4 := Blk.new (((w.alloc (.cells p.cells.toArray 26)).alloc (.cells q.cells.toArray 26)).alloc (.cells r.cells.toArray 26)) z.cells 26
  simp only [World.alloc, Array.size_push] at h2 h3 h4
  exact ⟨((h1.ext (ext_new _ _)).ext (ext_new _ _)).ext (ext_new _ _), (Blk.ext h2 (ext_new _ _)).ext (ext_new _ _), Blk.ext h3 (ext_new _ _), h4,
    Ext.trans (Ext.trans (Ext.trans (ext_new _ _) (ext_new _ _)) (ext_new _ _)) (ext_new _ _)⟩

theorem MZ.setA {w : World} {p q r z : Zo} {W : World} (h : MZ w p q r z W) (v : V) :
    MZ w p q r ⟨v, z.b, z.n, z.m⟩ (((W.setCell ⟨w.heap.size + 1 + 1 + 1, 0, none⟩ (.int .u8 v.k)).setCell ⟨w.heap.size + 1 + 1 + 1, 1, none⟩ (.int .i64 v.n)).setCell ⟨w.heap.size + 1 + 1 + 1, 2, none⟩ (.string ⟨v.s.toArray⟩)) :=
  ⟨((h.p.beside (by omega) _ _).beside (by omega) _ _).beside (by omega) _ _, ((h.q.beside (by omega) _ _).beside (by omega) _ _).beside (by omega) _ _, ((h.r.beside (by omega) _ _).beside (by omega) _ _).beside (by omega) _ _,
    ((h.z.set 0 _).set 1 _).set 2 _, Below.setCell (Below.setCell (Below.setCell h.x (by show w.heap.size ≤ w.heap.size + 1 + 1 + 1; omega) _) (by show w.heap.size ≤ w.heap.size + 1 + 1 + 1; omega) _) (by show w.heap.size ≤ w.heap.size + 1 + 1 + 1; omega) _⟩
theorem MZ.setB {w : World} {p q r z : Zo} {W : World} (h : MZ w p q r z W) (v : V) :
    MZ w p q r ⟨z.a, v, z.n, z.m⟩ (((W.setCell ⟨w.heap.size + 1 + 1 + 1, 3, none⟩ (.int .u8 v.k)).setCell ⟨w.heap.size + 1 + 1 + 1, 4, none⟩ (.int .i64 v.n)).setCell ⟨w.heap.size + 1 + 1 + 1, 5, none⟩ (.string ⟨v.s.toArray⟩)) :=
  ⟨((h.p.beside (by omega) _ _).beside (by omega) _ _).beside (by omega) _ _, ((h.q.beside (by omega) _ _).beside (by omega) _ _).beside (by omega) _ _, ((h.r.beside (by omega) _ _).beside (by omega) _ _).beside (by omega) _ _,
    ((h.z.set 3 _).set 4 _).set 5 _, Below.setCell (Below.setCell (Below.setCell h.x (by show w.heap.size ≤ w.heap.size + 1 + 1 + 1; omega) _) (by show w.heap.size ≤ w.heap.size + 1 + 1 + 1; omega) _) (by show w.heap.size ≤ w.heap.size + 1 + 1 + 1; omega) _⟩

/-- The answer, stored. -/
theorem MZ.told {w : World} {p q r z : Zo} {W : World} (h : MZ w p q r z W) :
    Blk ((((((((W.setCell ⟨w.heap.size + 1 + 1, 0, none⟩ (.int .u8 z.a.k)).setCell ⟨w.heap.size + 1 + 1, 1, none⟩ (.int .i64 z.a.n)).setCell ⟨w.heap.size + 1 + 1, 2, none⟩ (.string ⟨z.a.s.toArray⟩)).setCell ⟨w.heap.size + 1 + 1, 3, none⟩ (.int .u8 z.b.k)).setCell ⟨w.heap.size + 1 + 1, 4, none⟩ (.int .i64 z.b.n)).setCell ⟨w.heap.size + 1 + 1, 5, none⟩ (.string ⟨z.b.s.toArray⟩)).setCell ⟨w.heap.size + 1 + 1, 6, none⟩ (.int .i64 z.n)).setCell ⟨w.heap.size + 1 + 1, 7, none⟩ (.int .i64 z.m)) (w.heap.size + 1 + 1) z.cells 26 ∧
      Ext w ((((((((W.setCell ⟨w.heap.size + 1 + 1, 0, none⟩ (.int .u8 z.a.k)).setCell ⟨w.heap.size + 1 + 1, 1, none⟩ (.int .i64 z.a.n)).setCell ⟨w.heap.size + 1 + 1, 2, none⟩ (.string ⟨z.a.s.toArray⟩)).setCell ⟨w.heap.size + 1 + 1, 3, none⟩ (.int .u8 z.b.k)).setCell ⟨w.heap.size + 1 + 1, 4, none⟩ (.int .i64 z.b.n)).setCell ⟨w.heap.size + 1 + 1, 5, none⟩ (.string ⟨z.b.s.toArray⟩)).setCell ⟨w.heap.size + 1 + 1, 6, none⟩ (.int .i64 z.n)).setCell ⟨w.heap.size + 1 + 1, 7, none⟩ (.int .i64 z.m)) := by
  have hk : w.heap.size ≤ w.heap.size + 1 + 1 := by omega
  exact ⟨((((((((h.r.set 0 _).set 1 _).set 2 _).set 3 _).set 4 _).set 5 _).set 6 _).set 7 _),
    Below.setCell (Below.setCell (Below.setCell (Below.setCell (Below.setCell (Below.setCell (Below.setCell (Below.setCell h.x hk _) hk _) hk _) hk _) hk _) hk _) hk _) hk _⟩
/-- Is the second one the one to be told? -/
def swapZ (c : V → V → Int) (a b : V) : Bool := decide (a.k = 0 ∨ (b.k ≠ 0 ∧ c b a < 0))
theorem pick_swap (c : V → V → Int) (a b : V) : pick c a b = nz (bif swapZ c a b then b else a) := by
  unfold pick swapZ
  by_cases h : a.k = 0 ∨ (b.k ≠ 0 ∧ c b a < 0)
  · rw [if_pos h, decide_eq_true h]; rfl
  · rw [if_neg h, decide_eq_false h]; rfl

set_option maxRecDepth 100000 in
set_option maxHeartbeats 4000000 in
theorem refMergeZ_any (p q : Zo) (w : World) (hp : p.fits) (hq : q.fits) :
    Calls Try.prog 15 #[p.val, q.val] w fun e w' => e = .returned (mergeZ p q).val ∧ Ext w w' := by
  obtain ⟨⟨ak, an, as'⟩, ⟨bk, bn, bs⟩, pn, pm⟩ := p
  obtain ⟨⟨ck, cn, cs⟩, ⟨dk, dn, ds⟩, qn, qm⟩ := q
  have HCA := Lib.hid (refCompare_any ⟨ck, cn, cs⟩ ⟨ak, an, as'⟩ hq.a hp.a)
  have HCB := Lib.hid (refCompare_any ⟨dk, dn, ds⟩ ⟨bk, bn, bs⟩ hq.b hp.b)
  have HS := Lib.hid (MZ.start w ⟨⟨ak, an, as'⟩, ⟨bk, bn, bs⟩, pn, pm⟩ ⟨⟨ck, cn, cs⟩, ⟨dk, dn, ds⟩, qn, qm⟩ Zo.zero ⟨⟨ak, an, as'⟩, ⟨bk, bn, bs⟩, wrap64 (pn + qn), wrap64 (pm + qm)⟩)
  have HSA1 := Lib.hid (fun (h : ak = 0) => (show swapZ cmpV ⟨ak, an, as'⟩ ⟨ck, cn, cs⟩ = true from decide_eq_true (.inl h)))
  have HSA2 := Lib.hid (fun (h : ¬ ak = 0) (h2 : ck = 0) => (show swapZ cmpV ⟨ak, an, as'⟩ ⟨ck, cn, cs⟩ = false from decide_eq_false (by rintro (e | e); exact h e; exact e.1 h2)))
  have HSA3 := Lib.hid (fun (h : ¬ ak = 0) (h2 : ¬ ck = 0) => (show swapZ cmpV ⟨ak, an, as'⟩ ⟨ck, cn, cs⟩ = decide (cmpV ⟨ck, cn, cs⟩ ⟨ak, an, as'⟩ < 0) from decide_eq_decide.2 ⟨fun e => by rcases e with e | e; exact absurd e h; exact e.2, fun e => .inr ⟨h2, e⟩⟩))
  have HSB1 := Lib.hid (fun (h : bk = 0) => (show swapZ cmpW ⟨bk, bn, bs⟩ ⟨dk, dn, ds⟩ = true from decide_eq_true (.inl h)))
  have HSB2 := Lib.hid (fun (h : ¬ bk = 0) (h2 : dk = 0) => (show swapZ cmpW ⟨bk, bn, bs⟩ ⟨dk, dn, ds⟩ = false from decide_eq_false (by rintro (e | e); exact h e; exact e.1 h2)))
  have HSB3 := Lib.hid (fun (h : ¬ bk = 0) (h2 : ¬ dk = 0) => (show swapZ cmpW ⟨bk, bn, bs⟩ ⟨dk, dn, ds⟩ = decide (0 < cmpV ⟨dk, dn, ds⟩ ⟨bk, bn, bs⟩) from decide_eq_decide.2 ⟨fun e => by rcases e with e | e; exact absurd e h; have e1 : cmpV ⟨bk, bn, bs⟩ ⟨dk, dn, ds⟩ < 0 := e.2; have e2 := cmpV_neg ⟨bk, bn, bs⟩ ⟨dk, dn, ds⟩; omega, fun e => .inr ⟨h2, by show cmpV ⟨bk, bn, bs⟩ ⟨dk, dn, ds⟩ < 0; have e2 := cmpV_neg ⟨bk, bn, bs⟩ ⟨dk, dn, ds⟩; omega⟩⟩))
  unfold V.val at HCA HCB
  unfold Zo.val
  simp only at HCA HCB ⊢
  generalize cmpV ⟨dk, dn, ds⟩ ⟨bk, bn, bs⟩ = CB at HCB HSB3
  generalize hc2 : swapZ cmpW ⟨bk, bn, bs⟩ ⟨dk, dn, ds⟩ = c2 at HSB1 HSB2 HSB3
  have HC2 := Lib.hid hc2
  clear hc2
  generalize cmpV ⟨ck, cn, cs⟩ ⟨ak, an, as'⟩ = CA at HCA HSA3
  generalize hc1 : swapZ cmpV ⟨ak, an, as'⟩ ⟨ck, cn, cs⟩ = c1 at HSA1 HSA2 HSA3
  have HC1 := Lib.hid hc1
  clear hp hq hc1
  go_enter Try.func15, Try.ntmps15
  go_upto_region 2 with fail
  go_cut [38] from 6 (fun s38 W => s38 = .bool c1 ∧ MZ w ⟨⟨ak, an, as'⟩, ⟨bk, bn, bs⟩, pn, pm⟩ ⟨⟨ck, cn, cs⟩, ⟨dk, dn, ds⟩, qn, qm⟩ Zo.zero ⟨⟨ak, an, as'⟩, ⟨bk, bn, bs⟩, wrap64 (pn + qn), wrap64 (pm + qm)⟩ W)
  case first =>
    by_cases h1 : ak = 0
    · have HQ := Lib.hid (HSA1.out h1)
      subst h1
      go_wp2_with fail
      go_meet
      exact ⟨by rw [HQ.out], HS.out⟩
    · have q1 : (ak == (0 : Int)) = false := beq_eq_false_iff_ne.2 h1
      by_cases h2 : ck = 0
      · have HQ := Lib.hid (HSA2.out h1 h2)
        subst h2
        clear h1
        go_wp2_with fail
        go_meet
        exact ⟨by rw [HQ.out], HS.out⟩
      · have q2 : (ck == (0 : Int)) = false := beq_eq_false_iff_ne.2 h2
        have q3 : (ck != (0 : Int)) = true := bne_iff_ne.2 h2
        have HQ := Lib.hid (HSA3.out h1 h2)
        clear h1 h2
        go_wp2_with fail
        refine (HCA.out _).mono ?_
        rintro e w1 ⟨rfl, hx⟩
        have HX := Lib.hid hx
        clear hx
        go_wp2_with fail
        go_meet
        exact ⟨by rw [HQ.out], HS.out.ext HX.out⟩
  case rest =>
  obtain ⟨rfl, hm⟩ := hcut
  have HM := Lib.hid hm
  clear hm HS HCA HSA1 HSA2 HSA3
  go_upto_if 38 with fail
  go_cut [] from 6 (fun W => MZ w ⟨⟨ak, an, as'⟩, ⟨bk, bn, bs⟩, pn, pm⟩ ⟨⟨ck, cn, cs⟩, ⟨dk, dn, ds⟩, qn, qm⟩ Zo.zero ⟨(bif c1 then ⟨ck, cn, cs⟩ else ⟨ak, an, as'⟩), ⟨bk, bn, bs⟩, wrap64 (pn + qn), wrap64 (pm + qm)⟩ W)
  case first =>
    cases c1 with
    | true =>
      have k0 : wc.cell? ⟨w.heap.size + 1, 0, none⟩ = some (.int .u8 ck) := HM.out.q.cell 0 _ rfl
      have k1 : wc.cell? ⟨w.heap.size + 1, 1, none⟩ = some (.int .i64 cn) := HM.out.q.cell 1 _ rfl
      have k2 : wc.cell? ⟨w.heap.size + 1, 2, none⟩ = some (.string ⟨Array.mk cs⟩) := HM.out.q.cell 2 _ rfl
      have z0 : wc.cell? ⟨w.heap.size + 1 + 1 + 1, 0, none⟩ = some (.int .u8 ak) := HM.out.z.cell 0 _ rfl
      have z1 : wc.cell? ⟨w.heap.size + 1 + 1 + 1, 1, none⟩ = some (.int .i64 an) := HM.out.z.cell 1 _ rfl
      have z2 : wc.cell? ⟨w.heap.size + 1 + 1 + 1, 2, none⟩ = some (.string ⟨Array.mk as'⟩) := HM.out.z.cell 2 _ rfl
      have zf0 : wc.frozen? ⟨w.heap.size + 1 + 1 + 1, 0, none⟩ = false := HM.out.z.free 0
      have zf1 : wc.frozen? ⟨w.heap.size + 1 + 1 + 1, 1, none⟩ = false := HM.out.z.free 1
      have zf2 : wc.frozen? ⟨w.heap.size + 1 + 1 + 1, 2, none⟩ = false := HM.out.z.free 2
      go_wp2_with fail
      go_meet
      exact HM.out.setA ⟨ck, cn, cs⟩
    | false =>
      go_wp2_with fail
      go_meet
      exact HM.out
  case rest =>
  replace HM := Lib.hid hcut
  clear hcut
  obtain ⟨X, hX⟩ : ∃ X : V, (bif c1 then ⟨ck, cn, cs⟩ else ⟨ak, an, as'⟩) = X := ⟨_, rfl⟩
  rw [hX] at HM
  have HXX := Lib.hid hX
  clear hX
  obtain ⟨xk, xn, xs⟩ := X
  have p3 : wc.cell? ⟨w.heap.size, 3, none⟩ = some (.int .u8 bk) := HM.out.p.cell 3 _ rfl
  have p4 : wc.cell? ⟨w.heap.size, 4, none⟩ = some (.int .i64 bn) := HM.out.p.cell 4 _ rfl
  have p5 : wc.cell? ⟨w.heap.size, 5, none⟩ = some (.string ⟨Array.mk bs⟩) := HM.out.p.cell 5 _ rfl
  have q3 : wc.cell? ⟨w.heap.size + 1, 3, none⟩ = some (.int .u8 dk) := HM.out.q.cell 3 _ rfl
  have q4 : wc.cell? ⟨w.heap.size + 1, 4, none⟩ = some (.int .i64 dn) := HM.out.q.cell 4 _ rfl
  have q5 : wc.cell? ⟨w.heap.size + 1, 5, none⟩ = some (.string ⟨Array.mk ds⟩) := HM.out.q.cell 5 _ rfl
  go_upto_region 4 with fail
  go_cut [59] from 6 (fun s59 W => s59 = .bool c2 ∧ MZ w ⟨⟨ak, an, as'⟩, ⟨bk, bn, bs⟩, pn, pm⟩ ⟨⟨ck, cn, cs⟩, ⟨dk, dn, ds⟩, qn, qm⟩ Zo.zero ⟨⟨xk, xn, xs⟩, ⟨bk, bn, bs⟩, wrap64 (pn + qn), wrap64 (pm + qm)⟩ W)
  case first =>
    by_cases h1 : bk = 0
    · have HQ := Lib.hid (HSB1.out h1)
      subst h1
      go_wp2_with fail
      go_meet
      exact ⟨by rw [HQ.out], HM.out⟩
    · have q1 : (bk == (0 : Int)) = false := beq_eq_false_iff_ne.2 h1
      by_cases h2 : dk = 0
      · have HQ := Lib.hid (HSB2.out h1 h2)
        subst h2
        clear h1
        go_wp2_with fail
        go_meet
        exact ⟨by rw [HQ.out], HM.out⟩
      · have q2 : (dk == (0 : Int)) = false := beq_eq_false_iff_ne.2 h2
        have q3 : (dk != (0 : Int)) = true := bne_iff_ne.2 h2
        have HQ := Lib.hid (HSB3.out h1 h2)
        clear h1 h2
        go_wp2_with fail
        refine (HCB.out _).mono ?_
        rintro e w1 ⟨rfl, hx⟩
        have HX := Lib.hid hx
        clear hx
        go_wp2_with fail
        go_meet
        exact ⟨by rw [HQ.out], HM.out.ext HX.out⟩
  case rest =>
  clear p3 p4 p5 q3 q4 q5
  obtain ⟨rfl, hm⟩ := hcut
  replace HM := Lib.hid hm
  clear hm HCB HSB1 HSB2 HSB3
  go_upto_if 59 with fail
  go_cut [] from 6 (fun W => MZ w ⟨⟨ak, an, as'⟩, ⟨bk, bn, bs⟩, pn, pm⟩ ⟨⟨ck, cn, cs⟩, ⟨dk, dn, ds⟩, qn, qm⟩ Zo.zero ⟨⟨xk, xn, xs⟩, (bif c2 then ⟨dk, dn, ds⟩ else ⟨bk, bn, bs⟩), wrap64 (pn + qn), wrap64 (pm + qm)⟩ W)
  case first =>
    cases c2 with
    | true =>
      have k0 : wc.cell? ⟨w.heap.size + 1, 3, none⟩ = some (.int .u8 dk) := HM.out.q.cell 3 _ rfl
      have k1 : wc.cell? ⟨w.heap.size + 1, 4, none⟩ = some (.int .i64 dn) := HM.out.q.cell 4 _ rfl
      have k2 : wc.cell? ⟨w.heap.size + 1, 5, none⟩ = some (.string ⟨Array.mk ds⟩) := HM.out.q.cell 5 _ rfl
      have z0 : wc.cell? ⟨w.heap.size + 1 + 1 + 1, 3, none⟩ = some (.int .u8 bk) := HM.out.z.cell 3 _ rfl
      have z1 : wc.cell? ⟨w.heap.size + 1 + 1 + 1, 4, none⟩ = some (.int .i64 bn) := HM.out.z.cell 4 _ rfl
      have z2 : wc.cell? ⟨w.heap.size + 1 + 1 + 1, 5, none⟩ = some (.string ⟨Array.mk bs⟩) := HM.out.z.cell 5 _ rfl
      have zf0 : wc.frozen? ⟨w.heap.size + 1 + 1 + 1, 3, none⟩ = false := HM.out.z.free 3
      have zf1 : wc.frozen? ⟨w.heap.size + 1 + 1 + 1, 4, none⟩ = false := HM.out.z.free 4
      have zf2 : wc.frozen? ⟨w.heap.size + 1 + 1 + 1, 5, none⟩ = false := HM.out.z.free 5
      go_wp2_with fail
      go_meet
      exact HM.out.setB ⟨dk, dn, ds⟩
    | false =>
      go_wp2_with fail
      go_meet
      exact HM.out
  case rest =>
  replace HM := Lib.hid hcut
  clear hcut
  obtain ⟨Y, hY⟩ : ∃ Y : V, (bif c2 then ⟨dk, dn, ds⟩ else ⟨bk, bn, bs⟩) = Y := ⟨_, rfl⟩
  rw [hY] at HM
  have HYY := Lib.hid hY
  clear hY
  obtain ⟨yk, yn, ys⟩ := Y
  have z0 : wc.cell? ⟨w.heap.size + 1 + 1 + 1, 0, none⟩ = some (.int .u8 xk) := HM.out.z.cell 0 _ rfl
  go_upto_if 66 with fail
  go_cut [] from 6 (fun W => MZ w ⟨⟨ak, an, as'⟩, ⟨bk, bn, bs⟩, pn, pm⟩ ⟨⟨ck, cn, cs⟩, ⟨dk, dn, ds⟩, qn, qm⟩ Zo.zero ⟨nz ⟨xk, xn, xs⟩, ⟨yk, yn, ys⟩, wrap64 (pn + qn), wrap64 (pm + qm)⟩ W)
  case first =>
    by_cases h1 : xk = 0
    · have HN := Lib.hid (show nz ⟨xk, xn, xs⟩ = V.zero from nz_no h1)
      subst h1
      have zz0 : wc.cell? ⟨w.heap.size + 1 + 1 + 1, 0, none⟩ = some (.int .u8 0) := HM.out.z.cell 0 _ rfl
      have zz1 : wc.cell? ⟨w.heap.size + 1 + 1 + 1, 1, none⟩ = some (.int .i64 xn) := HM.out.z.cell 1 _ rfl
      have zz2 : wc.cell? ⟨w.heap.size + 1 + 1 + 1, 2, none⟩ = some (.string ⟨Array.mk xs⟩) := HM.out.z.cell 2 _ rfl
      have zf0 : wc.frozen? ⟨w.heap.size + 1 + 1 + 1, 0, none⟩ = false := HM.out.z.free 0
      have zf1 : wc.frozen? ⟨w.heap.size + 1 + 1 + 1, 1, none⟩ = false := HM.out.z.free 1
      have zf2 : wc.frozen? ⟨w.heap.size + 1 + 1 + 1, 2, none⟩ = false := HM.out.z.free 2
      go_wp2_with fail
      go_meet
      rw [HN.out]
      exact HM.out.setA V.zero
    · have HN := Lib.hid (show nz ⟨xk, xn, xs⟩ = ⟨xk, xn, xs⟩ from nz_yes h1)
      have q1 : (xk == (0 : Int)) = false := beq_eq_false_iff_ne.2 h1
      clear h1
      go_wp2_with fail
      go_meet
      rw [HN.out]
      exact HM.out
  case rest =>
  replace HM := Lib.hid hcut
  clear hcut z0
  obtain ⟨X, hX⟩ : ∃ X : V, nz ⟨xk, xn, xs⟩ = X := ⟨_, rfl⟩
  rw [hX] at HM
  rw [← HXX.out] at hX
  replace HXX := Lib.hid hX
  clear hX
  obtain ⟨vk, vn, vs⟩ := X
  have z3 : wc.cell? ⟨w.heap.size + 1 + 1 + 1, 3, none⟩ = some (.int .u8 yk) := HM.out.z.cell 3 _ rfl
  go_upto_if 72 with fail
  go_cut [] from 6 (fun W => MZ w ⟨⟨ak, an, as'⟩, ⟨bk, bn, bs⟩, pn, pm⟩ ⟨⟨ck, cn, cs⟩, ⟨dk, dn, ds⟩, qn, qm⟩ Zo.zero ⟨⟨vk, vn, vs⟩, nz ⟨yk, yn, ys⟩, wrap64 (pn + qn), wrap64 (pm + qm)⟩ W)
  case first =>
    by_cases h1 : yk = 0
    · have HN := Lib.hid (show nz ⟨yk, yn, ys⟩ = V.zero from nz_no h1)
      subst h1
      have zz0 : wc.cell? ⟨w.heap.size + 1 + 1 + 1, 3, none⟩ = some (.int .u8 0) := HM.out.z.cell 3 _ rfl
      have zz1 : wc.cell? ⟨w.heap.size + 1 + 1 + 1, 4, none⟩ = some (.int .i64 yn) := HM.out.z.cell 4 _ rfl
      have zz2 : wc.cell? ⟨w.heap.size + 1 + 1 + 1, 5, none⟩ = some (.string ⟨Array.mk ys⟩) := HM.out.z.cell 5 _ rfl
      have zf0 : wc.frozen? ⟨w.heap.size + 1 + 1 + 1, 3, none⟩ = false := HM.out.z.free 3
      have zf1 : wc.frozen? ⟨w.heap.size + 1 + 1 + 1, 4, none⟩ = false := HM.out.z.free 4
      have zf2 : wc.frozen? ⟨w.heap.size + 1 + 1 + 1, 5, none⟩ = false := HM.out.z.free 5
      go_wp2_with fail
      go_meet
      rw [HN.out]
      exact HM.out.setB V.zero
    · have HN := Lib.hid (show nz ⟨yk, yn, ys⟩ = ⟨yk, yn, ys⟩ from nz_yes h1)
      have q1 : (yk == (0 : Int)) = false := beq_eq_false_iff_ne.2 h1
      clear h1
      go_wp2_with fail
      go_meet
      rw [HN.out]
      exact HM.out
  case rest =>
  replace HM := Lib.hid hcut
  clear hcut z3
  obtain ⟨Y, hY⟩ : ∃ Y : V, nz ⟨yk, yn, ys⟩ = Y := ⟨_, rfl⟩
  rw [hY] at HM
  rw [← HYY.out] at hY
  replace HYY := Lib.hid hY
  clear hY
  obtain ⟨uk, un, us⟩ := Y
  have HR := Lib.hid (HM.out.told)
  have z0 : wc.cell? ⟨w.heap.size + 1 + 1 + 1, 0, none⟩ = some (.int .u8 vk) := HM.out.z.cell 0 _ rfl
  have z1 : wc.cell? ⟨w.heap.size + 1 + 1 + 1, 1, none⟩ = some (.int .i64 vn) := HM.out.z.cell 1 _ rfl
  have z2 : wc.cell? ⟨w.heap.size + 1 + 1 + 1, 2, none⟩ = some (.string ⟨Array.mk vs⟩) := HM.out.z.cell 2 _ rfl
  have z3 : wc.cell? ⟨w.heap.size + 1 + 1 + 1, 3, none⟩ = some (.int .u8 uk) := HM.out.z.cell 3 _ rfl
  have z4 : wc.cell? ⟨w.heap.size + 1 + 1 + 1, 4, none⟩ = some (.int .i64 un) := HM.out.z.cell 4 _ rfl
  have z5 : wc.cell? ⟨w.heap.size + 1 + 1 + 1, 5, none⟩ = some (.string ⟨Array.mk us⟩) := HM.out.z.cell 5 _ rfl
  have z6 : wc.cell? ⟨w.heap.size + 1 + 1 + 1, 6, none⟩ = some (.int .i64 (wrap64 (pn + qn))) := HM.out.z.cell 6 _ rfl
  have z7 : wc.cell? ⟨w.heap.size + 1 + 1 + 1, 7, none⟩ = some (.int .i64 (wrap64 (pm + qm))) := HM.out.z.cell 7 _ rfl
  have r0 : wc.cell? ⟨w.heap.size + 1 + 1, 0, none⟩ = some (.int .u8 0) := HM.out.r.cell 0 _ rfl
  have r1 : wc.cell? ⟨w.heap.size + 1 + 1, 1, none⟩ = some (.int .i64 0) := HM.out.r.cell 1 _ rfl
  have r2 : wc.cell? ⟨w.heap.size + 1 + 1, 2, none⟩ = some (.string ⟨#[]⟩) := HM.out.r.cell 2 _ rfl
  have r3 : wc.cell? ⟨w.heap.size + 1 + 1, 3, none⟩ = some (.int .u8 0) := HM.out.r.cell 3 _ rfl
  have r4 : wc.cell? ⟨w.heap.size + 1 + 1, 4, none⟩ = some (.int .i64 0) := HM.out.r.cell 4 _ rfl
  have r5 : wc.cell? ⟨w.heap.size + 1 + 1, 5, none⟩ = some (.string ⟨#[]⟩) := HM.out.r.cell 5 _ rfl
  have r6 : wc.cell? ⟨w.heap.size + 1 + 1, 6, none⟩ = some (.int .i64 0) := HM.out.r.cell 6 _ rfl
  have r7 : wc.cell? ⟨w.heap.size + 1 + 1, 7, none⟩ = some (.int .i64 0) := HM.out.r.cell 7 _ rfl
  have rf0 : wc.frozen? ⟨w.heap.size + 1 + 1, 0, none⟩ = false := HM.out.r.free 0
  have rf1 : wc.frozen? ⟨w.heap.size + 1 + 1, 1, none⟩ = false := HM.out.r.free 1
  have rf2 : wc.frozen? ⟨w.heap.size + 1 + 1, 2, none⟩ = false := HM.out.r.free 2
  have rf3 : wc.frozen? ⟨w.heap.size + 1 + 1, 3, none⟩ = false := HM.out.r.free 3
  have rf4 : wc.frozen? ⟨w.heap.size + 1 + 1, 4, none⟩ = false := HM.out.r.free 4
  have rf5 : wc.frozen? ⟨w.heap.size + 1 + 1, 5, none⟩ = false := HM.out.r.free 5
  have rf6 : wc.frozen? ⟨w.heap.size + 1 + 1, 6, none⟩ = false := HM.out.r.free 6
  have rf7 : wc.frozen? ⟨w.heap.size + 1 + 1, 7, none⟩ = false := HM.out.r.free 7
  go_wp2_with fail
  refine bodyPost_ret (results_cell_row (P := Try.prog) (fn := Try.f15) rfl _ _ (w.heap.size + 1 + 1) 26 _ (0, 0) _ rfl HR.out.1 Try.underlying26 rfl (by kernel_rfl)) rfl ?_
  refine ⟨?_, HR.out.2⟩
  unfold mergeZ
  rw [pick_swap, pick_swap, HC1.out, HC2.out, HXX.out, HYY.out]
  rfl

end Go.Proofs.Ytlbilmmjcfiokaa
