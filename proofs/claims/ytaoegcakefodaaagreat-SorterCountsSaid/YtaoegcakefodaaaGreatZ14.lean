/-
  Texts of this proof, merged.
-/
import Derived.Outline
import Derived.LoopN
import Derived.Test.YtaoegcakefodaaaGreatZ1
import Derived.Test.YtaoegcakefodaaaGreatZ2
import Derived.Test.YtaoegcakefodaaaGreatZ3
import Derived.Test.YtaoegcakefodaaaGreatZ4
import Derived.Test.YtaoegcakefodaaaGreatZ5
import Derived.Test.YtaoegcakefodaaaGreatZ6
import Derived.Test.YtaoegcakefodaaaGreatZ7
import Derived.Test.YtaoegcakefodaaaGreatZ8
import Derived.Test.YtaoegcakefodaaaGreatZ9
import Derived.Test.YtaoegcakefodaaaGreatZ10
import Derived.Test.YtaoegcakefodaaaGreatZ11
import Derived.Test.YtaoegcakefodaaaGreatZ12
import Derived.Test.YtaoegcakefodaaaGreatZ13
namespace Go.Proofs.YtaoegcakefodaaaGreat
open Go.RowKit Go.BigFrame
def ptrR (r : Run) : Value := .pointer (some ⟨r.f, 0, none⟩)
structure Fls (w : World) (p : Nat) (rs : List Run) : Prop where
  fil : ∀ r ∈ rs, Fil r.F w r.f p r.ids r.y.length
  ff : rs.Pairwise fun a c => ∀ b, a.F b → ¬ c.F b
theorem Fls.keep {X : Nat → Prop} {w w' : World} {p : Nat} {rs : List Run} (h : Fls w p rs) (ho : OnlyS X w w') (hx : ∀ r ∈ rs, ∀ b, X b → ¬ r.F b) : Fls w' p rs := ⟨fun r hr => (h.fil r hr).keep ho (hx r hr), h.ff⟩
theorem Fls.sub {w : World} {p : Nat} {rs gs : List Run} (h : Fls w p rs) (hs : gs.Sublist rs) : Fls w p gs := ⟨fun r hr => h.fil r (hs.subset hr), h.ff.sublist hs⟩
theorem Fls.apart {w : World} {p : Nat} {rs : List Run} (h : Fls w p rs) {i j : Nat} (hi : i < rs.length) (hj : j < rs.length) (hij : i ≠ j) : ∀ b, rs[i].F b → ¬ rs[j].F b := fun b hb hb2 => by
  have := List.pairwise_iff_getElem.1 h.ff
  rcases Nat.lt_or_gt_of_ne hij with h1 | h1
  · exact this i j hi hj h1 b hb hb2
  · exact this j i hj hi h1 b hb2 hb
def Dropped18 (O : Nat → Prop) (p : Nat) (s : St) (g : List Run) (w : World) (e : Ending) (w' : World) : Prop :=
  ∃ O', e = .returned (.tuple #[]) ∧ PSto O' w' p (dropS s (intsN (g.flatMap Run.ids))) ∧ OnlyS (fun b => O b ∨ ∃ r ∈ g, r.F b) w w' ∧ ∀ b, O' b → O b ∨ w.heap.size ≤ b
set_option maxRecDepth 100000 in
set_option maxHeartbeats 1000000 in
theorem pDropRuns18_any (t : Value) (O : Nat → Prop) (p : Nat) (s : St) (v : Value) (g : List Run) (w : World) (h : PSto O w p s) (hok : okS s) (hv : RdV w v (g.map ptrR)) (hvo : ∀ k, v.ownBlock = some k → ¬ O k ∧ ∀ r ∈ g, ¬ r.F k) (hf : Fls w p g) (hof : ∀ b, O b → ∀ r ∈ g, ¬ r.F b) :
    Calls Tryz.prog 64 #[t, v] w (Dropped18 O p s g w) := by
  obtain ⟨ao, cap, rfl, hl1, hl2, -⟩ := RdV.cellsAt hv
  have HPL := Lib.hid (RdV.plainV hv).2.2.2
  rw [List.length_map] at hl1 hvo ⊢
  unfold maxLen at hl2
  obtain ⟨N, hN⟩ : ∃ N, g.length = N := ⟨_, rfl⟩
  have HN := Lib.hid hN
  have HP := Lib.hid h
  have HOK := Lib.hid hok
  have HVO := Lib.hid hvo
  have HF := Lib.hid hf
  have HOF := Lib.hid hof
  rw [hN] at hl1 ⊢
  clear h hok hv hvo hf hof hN
  go_enter Tryz.func64, Tryz.ntmps64
  go_wp2_with fail
  go_loopw [8] (fun i wr => ∃ (j : Nat) (O1 : Nat → Prop), j ≤ N ∧ i = .int .i64 j ∧ PSto O1 wr p (dropS s (intsN ((g.take j).flatMap Run.ids))) ∧ okS (dropS s (intsN ((g.take j).flatMap Run.ids))) ∧ OnlyS (fun b => O b ∨ ∃ r ∈ g.take j, r.F b) w wr ∧ ∀ b, O1 b → O b ∨ w.heap.size ≤ b) (fun i _ => N - (intOf i).toNat)
  case atStart => exact ⟨0, O, Nat.zero_le _, rfl, HP.out, HOK.out, OnlyS.refl _ _, fun b hb => .inl hb⟩
  case round =>
    obtain ⟨j, O1, hj, rfl, h1, h2, h3, h4⟩ := hrel
    have HP1 := Lib.hid h1
    have HK1 := Lib.hid h2
    have HO1 := Lib.hid h3
    have HN1 := Lib.hid h4
    clear h1 h2 h3 h4
    by_cases hlt : j < N
    · have hjl : j < g.length := by have := HN.out; omega
      have hin : ∀ b, (O b ∨ ∃ r ∈ g.take j, r.F b) → ¬ g[j].F b := fun b hb hF => by
        rcases hb with hb | ⟨r, hr, hb⟩
        · exact HOF.out b hb g[j] (List.getElem_mem hjl) hF
        · obtain ⟨i, hi, rfl⟩ := List.mem_iff_getElem.1 hr
          rw [List.length_take] at hi
          rw [List.getElem_take] at hb
          exact HF.out.apart (by omega) hjl (by omega) b hb hF
      have HFI := Lib.hid ((HF.out.fil g[j] (List.getElem_mem hjl)).keep HO1.out hin)
      have hof1 : ∀ b, O1 b → ¬ g[j].F b := fun b hb hF => by
        rcases HN1.out b hb with h5 | h5
        · exact HOF.out b h5 g[j] (List.getElem_mem hjl) hF
        · have := (HF.out.fil g[j] (List.getElem_mem hjl)).lt hF
          omega
      have HD := Lib.hid (pDrop17_any O1 g[j].F g[j].f p _ g[j].ids g[j].y.length wr HP1.out HK1.out HFI.out hof1)
      have HOK1 := Lib.hid (dropS_ok (intsN g[j].ids) _ HK1.out)
      have hcell : ∃ b off, ao = some ⟨b, off, none⟩ ∧ wr.cell? ⟨b, off + j, none⟩ = some (ptrR g[j]) := by
        obtain ⟨b, off, e1, e2⟩ := HPL.out j (ptrR g[j]) (by rw [List.getElem?_map, List.getElem?_eq_getElem hjl]; rfl)
        refine ⟨b, off, e1, HO1.out.cell e2 fun h5 => ?_⟩
        have hno := HVO.out b (by rw [e1]; rfl)
        rcases h5 with h5 | ⟨r, hr, h5⟩
        · exact hno.1 h5
        · exact hno.2 r (List.mem_of_mem_take hr) h5
      have HTK := Lib.hid (show g.take (j + 1) = g.take j ++ [g[j]] from List.take_succ_eq_append_getElem hjl)
      have HDS := Lib.hid (show dropS s (intsN ((g.take (j + 1)).flatMap Run.ids)) = dropS (dropS s (intsN ((g.take j).flatMap Run.ids))) (intsN g[j].ids) from by
        rw [HTK.out, List.flatMap_append, intsN_append, dropS_append]
        simp)
      obtain ⟨b, off, rfl, c0⟩ := hcell
      unfold ptrR at c0
      generalize g[j] = r at c0 HFI HD HOK1 HTK HDS hin hof1
      have HIN := Lib.hid hin
      clear hin hof1 hjl
      go_wp2_with fail
      refine HD.out.mono ?_
      rintro e w2 ⟨O2, F2, rfl, k1, -, k3, k4, -⟩
      have HP2 := Lib.hid k1
      have HO2 := Lib.hid k3
      have HN2 := Lib.hid k4
      clear k1 k3 k4 c0
      go_wp2_with fail
      go_roundw
      case rel =>
        refine ⟨j + 1, O2, by omega, by go_num, by rw [HDS.out]; exact HP2.out, by rw [HDS.out]; exact HOK1.out, ?_, fun b hb => ?_⟩
        · refine OnlyS.trans (HO1.out.mono fun b _ hb => ?_) HO2.out fun b hb h5 => ?_
          · rcases hb with hb | ⟨r', hr', hb⟩
            · exact .inl hb
            · exact .inr ⟨r', by rw [HTK.out]; exact List.mem_append.2 (.inl hr'), hb⟩
          · rcases h5 with h5 | h5
            · rcases HN1.out b h5 with h6 | h6
              · exact .inl h6
              · omega
            · exact .inr ⟨r, by rw [HTK.out]; simp, h5⟩
        · rcases HN2.out b hb with h5 | h5
          · exact HN1.out b h5
          · have := HO1.out.size
            exact .inr (by omega)
      case measure => simp [intOf]; omega
    · have HALL := Lib.hid (show g.take j = g from List.take_of_length_le (by have := HN.out; omega))
      go_wp2_with fail
      go_end0
      have e := HALL.out
      refine ⟨O1, rfl, ?_, ?_, HN1.out⟩
      · have := HP1.out
        rwa [e] at this
      · have := HO1.out
        rwa [e] at this
structure WkM (B : Nat) (w : World) (p q t : Nat) (K : Value) (held : Int) (R : Value) (rs : List Run) : Prop where
  blk : Wk5 w t p q K held R
  row : w.ownsRow B 104 1 R rs.length (rs.map ptrR)
  fls : Fls w p rs
  tB : B ≤ t
  rt : R.ownBlock ≠ some t
  ft : ∀ r ∈ rs, ∀ b, r.F b → B ≤ b ∧ b ≠ t ∧ R.ownBlock ≠ some b
def WkO (t : Nat) (R : Value) (rs : List Run) (b : Nat) : Prop := b = t ∨ R.ownBlock = some b ∨ ∃ r ∈ rs, r.F b
theorem WkM.lt {B : Nat} {w : World} {p q t : Nat} {K : Value} {held : Int} {R : Value} {rs : List Run} (h : WkM B w p q t K held R rs) {b : Nat} (hb : WkO t R rs b) : B ≤ b ∧ b < w.heap.size := by
  rcases hb with rfl | hb | ⟨r, hr, hb⟩
  · exact ⟨h.tB, h.blk.lt⟩
  · exact h.row.lt b hb
  · exact ⟨(h.ft r hr b hb).1, (h.fls.fil r hr).lt hb⟩
theorem WkM.keep {B : Nat} {X : Nat → Prop} {w w' : World} {p q t : Nat} {K : Value} {held : Int} {R : Value} {rs : List Run} (h : WkM B w p q t K held R rs) (ho : OnlyS X w w') (hx : ∀ b, X b → ¬ WkO t R rs b) : WkM B w' p q t K held R rs :=
  ⟨h.blk.onlyS ho fun h2 => hx t h2 (.inl rfl), own_others h.row ho fun k hk h2 => hx k h2 (.inr (.inl hk)), h.fls.keep ho fun r hr b h2 h3 => hx b h2 (.inr (.inr ⟨r, hr, h3⟩)), h.tB, h.rt, h.ft⟩
theorem WkM.turn {B : Nat} {w w' : World} {p q t : Nat} {K : Value} {held held' : Int} {R : Value} {rs : List Run} (h : WkM B w p q t K held R rs) (ho : OnlyS (fun b => b = q ∨ b = t) w w') (hq : q < B) (hb : Wk5 w' t p q K held' R) : WkM B w' p q t K held' R rs :=
  ⟨hb, own_others h.row ho fun k hk h2 => by
    have := (h.row.lt k hk).1
    rcases h2 with h2 | h2
    · omega
    · exact h.rt (h2 ▸ hk), h.fls.keep ho fun r hr b h2 h3 => by
    have := h.ft r hr b h3
    rcases h2 with h2 | h2
    · omega
    · exact this.2.1 h2, h.tB, h.rt, h.ft⟩
set_option maxRecDepth 100000 in
set_option maxHeartbeats 1000000 in
theorem pEnd18_any (B : Nat) (O : Nat → Prop) (p q t : Nat) (s : St) (pu : Pu) (K : Value) (held : Int) (R : Value) (rs : List Run) (u : FrameMode) (w : World) (h : PSto O w p s) (hok : okS s) (hp : PurS w q pu) (hw : WkM B w p q t K held R rs) (hq : q < B) (hoq : ¬ O q) (how : ∀ b, O b → ¬ WkO t R rs b) (h0 : 0 ≤ held) (h1 : held ≤ pu.now) :
    CallsD Tryz.prog 39 #[.pointer (some ⟨t, 0, none⟩)] u w fun e u' w' => u' = u ∧ ∃ O', e = .returned (.tuple #[]) ∧ PSto O' w' p (dropS s (intsN (rs.flatMap Run.ids))) ∧ PurS w' q ⟨pu.most, pu.now - held, pu.peak⟩ ∧ OnlyS (fun b => O b ∨ b = q ∨ WkO t R rs b) w w' ∧ ∀ b, O' b → O b ∨ w.heap.size ≤ b := by
  have hqt : q ≠ t := by have := hw.tB; omega
  have HG := Lib.hid (pGiveAll18_any t p q K R held pu w hw.blk hp hqt h0 h1)
  have HP := Lib.hid h
  have HOK := Lib.hid hok
  have HW := Lib.hid hw
  have HOW := Lib.hid how
  have HQ := Lib.hid hq
  have HOQ := Lib.hid hoq
  clear h hok hp hw how hq hoq hqt h0 h1
  go_enter_d Tryz.func39, Tryz.ntmps39
  go_wp2_with fail
  refine HG.out.mono ?_
  rintro e w1 ⟨rfl, ho1, hp1, hb1⟩
  have HO1 := Lib.hid ho1
  have HPU := Lib.hid hp1
  have HW1 := Lib.hid (HW.out.turn ho1 HQ.out hb1)
  have HP1 := Lib.hid (HP.out.onlyS ho1 (fun b hb h2 => by
    rcases h2 with rfl | rfl
    · exact HOQ.out hb
    · exact HOW.out _ hb (.inl rfl)))
  clear ho1 hp1 hb1
  have c4 := HW1.out.blk.cell 4 _ rfl
  obtain ⟨ra, rc, hR, -, -⟩ := own_shapeP HW1.out.row
  have HD := Lib.hid (pDropRuns18_any (.pointer (some ⟨t, 0, none⟩)) O p s R rs w1 HP1.out HOK.out (RdV.of_owns HW1.out.row) (fun k hk => ⟨fun h2 => HOW.out k h2 (.inr (.inl hk)), fun r hr h2 => (HW1.out.ft r hr k h2).2.2 hk⟩) HW1.out.fls (fun b hb r hr h2 => HOW.out b hb (.inr (.inr ⟨r, hr, h2⟩))))
  subst hR
  go_wp2_with fail
  refine HD.out.mono ?_
  rintro e w2 ⟨O2, rfl, k1, k2, k3⟩
  have HP2 := Lib.hid k1
  have HO2 := Lib.hid k2
  have HN2 := Lib.hid k3
  clear k1 k2 k3 c4
  go_wp2_with fail
  go_end0
  have hs1 := HO1.out.size
  refine ⟨O2, rfl, HP2.out, HPU.out.onlyS HO2.out (fun h2 => ?_), ?_, fun b hb => ?_⟩
  · rcases h2 with h2 | ⟨r, hr, h2⟩
    · exact HOQ.out h2
    · have := (HW1.out.ft r hr q h2).1
      have := HQ.out
      omega
  · refine OnlyS.trans (HO1.out.mono fun b _ hb => ?_) (HO2.out.mono fun b _ hb => ?_) fun _ _ h => h
    · rcases hb with rfl | rfl
      · exact .inr (.inl rfl)
      · exact .inr (.inr (.inl rfl))
    · rcases hb with hb | hb
      · exact .inl hb
      · exact .inr (.inr (.inr (.inr hb)))
  · rcases HN2.out b hb with h2 | h2
    · exact .inl h2
    · exact .inr (by omega)
end Go.Proofs.YtaoegcakefodaaaGreat

namespace Go.Proofs.YtaoegcakefodaaaGreat
open Go.RowKit Go.BigFrame
theorem rows_fixed {O : Nat → Prop} {w : World} {ao : Option Addr} {N cap : Nat} {rows : List (List V)} (hu : ∀ W, OnlyS O w W → RdRows W (.slice ao N cap) rows) (j : Nat) (hj : j < rows.length) :
    ∃ g off a1 a2 a3, ao = some ⟨g, off, none⟩ ∧ ¬ O g ∧ ∀ W, OnlyS O w W → W.cell? ⟨g, off + j, none⟩ = some (.slice a1 a2 a3) ∧ RdVals W (.slice a1 a2 a3) rows[j] := by
  obtain ⟨fh, hfh, -, -, -, hat⟩ := (hu w (OnlyS.refl _ _)).heads
  obtain ⟨a1, a2, a3, ha, hra⟩ := hfh.get j hj
  obtain ⟨g, off, rfl, c0⟩ := hat j _ ha
  have hO : ¬ O g := fun hO => by
    have ho : OnlyS O w (w.setCell ⟨g, off + j, none⟩ (.int .i64 0)) := OnlyS.of_onlyP (OnlyP.set g (off + j) w _) hO
    obtain ⟨fh', hfh', -, -, -, hat'⟩ := (hu _ ho).heads
    obtain ⟨b1, b2, b3, hb, -⟩ := hfh'.get j hj
    obtain ⟨g', off', e, c1⟩ := hat' j _ hb
    simp only [Option.some.injEq, Addr.mk.injEq, and_true] at e
    obtain ⟨rfl, rfl⟩ := e
    rw [World.cell?_setCell_same (w := w) (h := c0)] at c1
    cases c1
  refine ⟨g, off, a1, a2, a3, rfl, hO, fun W hW => ?_⟩
  have c2 := hW.cell c0 hO
  obtain ⟨fh', hfh', -, -, -, hat'⟩ := (hu _ hW).heads
  obtain ⟨b1, b2, b3, hb, hrb⟩ := hfh'.get j hj
  obtain ⟨g', off', e, c1⟩ := hat' j _ hb
  simp only [Option.some.injEq, Addr.mk.injEq, and_true] at e
  obtain ⟨rfl, rfl⟩ := e
  rw [c2] at c1
  simp only [Option.some.injEq, Value.slice.injEq] at c1
  obtain ⟨rfl, rfl, rfl⟩ := c1
  exact ⟨c2, hrb⟩
def PPutted17 (O : Nat → Prop) (w : World) (p : Nat) (s : St) (rows : List (List V)) (e : Ending) (w' : World) : Prop :=
  ∃ v O', e = .returned (.tuple #[v, .int .i64 (putR s rows).1.2]) ∧ PSto O' w' p (putR s rows).2 ∧ OnlyS O w w' ∧ (∀ b, O' b → O b ∨ w.heap.size ≤ b) ∧
    (((putR s rows).1.2 ≠ 0 ∧ v = .pointer none) ∨ ((putR s rows).1.2 = 0 ∧ ∃ f F, v = .pointer (some ⟨f, 0, none⟩) ∧ Fil F w' f p (putR s rows).1.1 rows.length ∧ ∀ b, F b → w.heap.size ≤ b ∧ ¬ O' b))
theorem PPutted17.no {O O' X' : Nat → Prop} {w w' : World} {p : Nat} {s : St} {rows : List (List V)} {E : Int} (hr : putR s rows = (([], E), s)) (hE : E ≠ 0) (hp : PSto O' w' p s) (hd : Duo O (fun _ => False) w O' X' w') : PPutted17 O w p s rows (.returned (.tuple #[.pointer none, .int .i64 E])) w' := by
  unfold PPutted17
  rw [hr]
  exact ⟨_, O', rfl, hp, hd.only.mono (fun b _ h => h.elim id False.elim), hd.os, .inl ⟨hE, rfl⟩⟩
theorem mayR_small (r : List V) : mayR r = 0 ∨ mayR r = 3 ∨ mayR r = 7 := by
  unfold mayR
  split
  · exact .inr (.inl rfl)
  · split
    · exact .inl rfl
    · exact .inr (.inr rfl)
set_option maxRecDepth 100000 in
set_option maxHeartbeats 4000000 in
theorem pPut17_any (O : Nat → Prop) (p : Nat) (s : St) (u : Value) (rows : List (List V)) (w : World) (h : PSto O w p s) (hok : okS s) (hu : ∀ W, OnlyS O w W → RdRows W u rows) (hf : FitB rows) :
    Calls Tryz.prog 66 #[.pointer (some ⟨p, 0, none⟩), u] w (PPutted17 O w p s rows) := by
  obtain ⟨ao, cap, rfl, hu1, hu2⟩ := (hu w (OnlyS.refl _ _)).shape
  unfold maxLen at hu2
  have HFX := Lib.hid (fun j hj => rows_fixed hu j hj)
  have HP := Lib.hid h
  have HOK := Lib.hid hok
  have HF := Lib.hid hf
  have HUS := Lib.hid (show usedS s ≤ s.length from List.countP_le_length)
  obtain ⟨N, hN⟩ : ∃ N, rows.length = N := ⟨_, rfl⟩
  have HN := Lib.hid hN
  rw [hN] at hu1 ⊢
  clear h hok hu hf hN
  go_enter Tryz.func66, Tryz.ntmps66
  go_wp2_with fail
  refine (pNew17_any p w).mono ?_
  rintro e w1 ⟨⟨f, X, rfl, hW, hX⟩, hx⟩
  have HW1 := Lib.hid hW
  have HD1 := Lib.hid (show Duo O (fun _ => False) w O X w1 from ⟨OnlyS.of_ext hx, fun _ hb => .inl hb, fun b hb => .inr (hX b hb), fun b hb hxb => by
    have := HP.out.lt b hb
    have := hX b hxb
    omega⟩)
  have HP1 := Lib.hid (HP.out.onlyS (OnlyS.of_ext (X := fun _ => False) hx) (fun _ _ h => h))
  clear hW hX hx
  go_wp2_with fail
  go_loopw [9, 14] (fun _ i wr => ∃ (j : Nat) (O' X' : Nat → Prop), j ≤ N ∧ i = .int .i64 j ∧ (∀ r ∈ rows.take j, mayR r = 0) ∧ fullK (rows.take j) + usedS s ≤ s.length ∧ PSto O' wr p (storeK s (rowsB (rows.take j)) (fullK (rows.take j))) ∧ Wri X' wr f p (atW s (rows.take j)) ∧ Duo O (fun _ => False) w O' X' wr) (fun _ i _ => N - (intOf i).toNat)
  case atStart =>
    refine ⟨0, O, X, Nat.zero_le _, rfl, fun r hr => by simp at hr, ?_, ?_, ?_, HD1.out⟩
    · have := HUS.out
      show fullK [] + usedS s ≤ s.length
      have : fullK [] = 0 := rfl
      omega
    · rw [List.take_zero, (atW_nil s).2]
      exact HP1.out
    · rw [List.take_zero, (atW_nil s).1]
      exact HW1.out
  case round =>
    obtain ⟨j, O', X', hj, rfl, hm, hk, hp, hw, hd⟩ := hrel
    have HM := Lib.hid hm
    have HK := Lib.hid hk
    have HP2 := Lib.hid hp
    have HW2 := Lib.hid hw
    have HD2 := Lib.hid hd
    clear hm hk hp hw hd
    by_cases hlt : j < N
    · have hjl : j < rows.length := by have := HN.out; omega
      obtain ⟨g, off, a1, a2, a3, rfl, hgO, hall⟩ := HFX.out j hjl
      have ho2 : OnlyS O w wr := HD2.out.only.mono fun b _ h => h.elim id False.elim
      have x0 := (hall wr ho2).1
      have HADD := Lib.hid (pAdd17_any O' X' f p _ (atW s (rows.take j)) (.slice a1 a2 a3) rows[j] wr HP2.out (storeK_ok HOK.out _ _) HW2.out HD2.out.apart (fun W' hW' => (hall W' (OnlyS.trans ho2 hW' fun i hi hb => by
        rcases hb with hb | hb
        · rcases HD2.out.os i hb with h1 | h1
          · exact h1
          · omega
        · rcases HD2.out.xs i hb with h1 | h1
          · exact h1.elim
          · omega)).2) ⟨by simp, fun r hr => by
        rw [List.mem_singleton] at hr
        exact hr ▸ HF.out.2 _ (List.getElem_mem hjl)⟩ (by
        show (rows.take j).length ≤ 1000000
        have := HF.out.1
        rw [List.length_take]
        omega))
      by_cases hmr : mayR rows[j] = 0
      · have HM2 := Lib.hid (show ∀ r ∈ rows.take (j + 1), mayR r = 0 from fun r hr => by
          rw [List.take_succ_eq_append_getElem hjl] at hr
          rcases List.mem_append.1 hr with h1 | h1
          · exact HM.out r h1
          · rw [List.mem_singleton] at h1
            exact h1 ▸ hmr)
        by_cases hroom : fullK (rows.take j ++ [rows[j]]) + usedS s ≤ s.length
        · rw [addW_room hmr hroom, ← List.take_succ_eq_append_getElem hjl] at HADD
          rw [← List.take_succ_eq_append_getElem hjl] at hroom
          have HRO := Lib.hid hroom
          clear hall ho2 hmr hroom hgO
          go_wp2_with fail
          refine HADD.out.mono ?_
          rintro e w3 ⟨O3, X3, rfl, hp3, hw3, ho3, hn3, hx3, hax3⟩
          have HP3 := Lib.hid hp3
          have HW3 := Lib.hid hw3
          have HD3 := Lib.hid (HD2.out.trans ⟨ho3, hn3, hx3, hax3⟩)
          clear hp3 hw3 ho3 hn3 hx3 hax3
          go_wp2_with fail
          go_roundw
          case rel => exact ⟨j + 1, O3, X3, by omega, by go_num, HM2.out, HRO.out, HP3.out, HW3.out, HD3.out⟩
          case measure => simp [intOf]; omega
        · have HR := Lib.hid (putR_at_full hjl HM2.out HUS.out hroom)
          rw [addW_none hmr HK.out hroom] at HADD
          clear hall ho2 hmr hroom hgO
          go_wp2_with fail
          refine HADD.out.mono ?_
          rintro e w3 ⟨O3, X3, rfl, hp3, hw3, ho3, hn3, hx3, hax3⟩
          have HD3 := Lib.hid (HD2.out.trans ⟨ho3, hn3, hx3, hax3⟩)
          have HCC := Lib.hid (pCancel17_any O3 X3 f p s offW w3 hp3 HOK.out hw3 hax3)
          clear hp3 hw3 ho3 hn3 hx3 hax3
          go_wp2_with fail
          refine HCC.out.mono ?_
          rintro e w4 ⟨O4, X4, rfl, hp4, -, ho4, hn4, hx4, hax4⟩
          have HP4 := Lib.hid hp4
          have HD4 := Lib.hid (HD3.out.trans ⟨ho4, hn4, hx4, hax4⟩)
          clear hp4 ho4 hn4 hx4 hax4
          go_wp2_with fail
          go_ret2
          exact PPutted17.no HR.out (by decide) HP4.out HD4.out
      · have HR := Lib.hid (putR_at_bad hjl HM.out hmr HK.out)
        rw [addW_bad hmr] at HADD
        have hms := mayR_small rows[j]
        generalize mayR rows[j] = m at HR HADD hmr hms
        have HMR := Lib.hid hmr
        have q1 : (m != 0) = true := by rw [bne_iff_ne]; exact hmr
        have q2 : (m == 0) = false := beq_eq_false_iff_ne.2 hmr
        clear hall ho2 hmr hgO hms
        go_wp2_with fail
        refine HADD.out.mono ?_
        rintro e w3 ⟨O3, X3, rfl, hp3, hw3, ho3, hn3, hx3, hax3⟩
        have HD3 := Lib.hid (HD2.out.trans ⟨ho3, hn3, hx3, hax3⟩)
        have HCC := Lib.hid (pCancel17_any O3 X3 f p _ _ w3 hp3 (storeK_ok HOK.out _ _) hw3 hax3)
        clear hp3 hw3 ho3 hn3 hx3 hax3
        go_wp2_with fail
        refine HCC.out.mono ?_
        rintro e w4 ⟨O4, X4, rfl, hp4, -, ho4, hn4, hx4, hax4⟩
        rw [cancelW_at] at hp4
        have HP4 := Lib.hid hp4
        have HD4 := Lib.hid (HD3.out.trans ⟨ho4, hn4, hx4, hax4⟩)
        clear hp4 ho4 hn4 hx4 hax4
        go_wp2_with fail
        go_ret2
        exact PPutted17.no HR.out HMR.out HP4.out HD4.out
    · have hALL : rows.take j = rows := List.take_of_length_le (by have := HN.out; omega)
      have hm := HM.out
      have hk := HK.out
      have hp := HP2.out
      have hw := HW2.out
      rw [hALL] at hm hk hp hw
      have HDN := Lib.hid (pDone17_any O' X' f p _ _ wr hp (storeK_ok HOK.out _ _) hw HD2.out.apart)
      obtain ⟨hd1, hd2⟩ := doneW_at hm hk
      have HD1' := Lib.hid hd1
      have HD2' := Lib.hid hd2
      clear hALL hm hk hp hw hd1 hd2
      go_wp2_with fail
      refine HDN.out.mono ?_
      rintro e w3 ⟨v, O3, X3, F, rfl, hp3, -, ho3, hn3, hx3, hf3, hax3, hfx3, hv⟩
      have hd3 : Duo O (fun _ => False) w O3 X3 w3 := HD2.out.trans ⟨ho3, hn3, hx3, hax3⟩
      have hans : PPutted17 O w p s rows (.returned (.tuple #[v, .int .i64 (doneW (storeK s (rowsB rows) (fullK rows)) (atW s rows)).1.1])) w3 := by
        have e1 := congrArg (fun x => x.1.2) HD1'.out
        have e2 := congrArg (fun x => x.1.1) HD1'.out
        have e3 := congrArg (fun x => x.2) HD1'.out
        simp only at e1 e2 e3
        unfold PPutted17
        rw [← e1, ← e2, ← e3]
        refine ⟨v, O3, rfl, hp3, hd3.only.mono (fun b _ h => h.elim id False.elim), hd3.os, ?_⟩
        rcases hv with hv | ⟨hv1, g, hv2, hv3⟩
        · exact .inl hv
        · rw [HD2'.out (e1 ▸ hv1)] at hv3
          refine .inr ⟨hv1, g, F, hv2, hv3, fun b hb => ⟨?_, (hfx3 b hb).2⟩⟩
          rcases hf3 b hb with h1 | h1
          · rcases HD2.out.xs b h1 with h2 | h2
            · exact h2.elim
            · exact h2
          · exact Nat.le_trans HD2.out.only.size h1
      have HANS := Lib.hid hans
      clear hp3 ho3 hn3 hx3 hf3 hax3 hfx3 hv hd3 hans
      obtain ⟨E, hE⟩ : ∃ E, (doneW (storeK s (rowsB rows) (fullK rows)) (atW s rows)).1.1 = E := ⟨_, rfl⟩
      rw [hE] at HANS ⊢
      go_wp2_with fail
      go_ret2
      exact HANS.out
end Go.Proofs.YtaoegcakefodaaaGreat

namespace Go.Proofs.YtaoegcakefodaaaGreat
open Go.RowKit Go.BigFrame
theorem run_loadBytes17 {P : Program} (w : World) : ∀ (l : List UInt8) (x : Addr) (acc : List UInt8) (_ : ∀ i u, (l.map bv)[i]? = some u → w.cell? (x.add i) = some u),
    (Extern.Bytes.loadBytes x l.length ⟨acc.toArray⟩).run P w = .ok ⟨(acc ++ l).toArray⟩ w
  | [], x, acc, _ => by
    rw [List.append_nil]
    rfl
  | c :: t, x, acc, hc => by
    have h0 := hc 0 (bv c) rfl
    rw [add_zero] at h0
    have ih := run_loadBytes17 (P := P) w t (x.add 1) (acc ++ [c]) (fun i u hu => by
      rw [add_more']
      have := hc (i + 1) u (by simpa using hu)
      rwa [Nat.add_comm] at this)
    rw [List.length_cons]
    unfold Extern.Bytes.loadBytes
    have e : (ByteArray.mk acc.toArray).push c = ByteArray.mk (acc ++ [c]).toArray := by
      unfold ByteArray.push
      simp
    have e2 : ((c.toNat : Int)).toNat.toUInt8 = c := by
      rw [Int.toNat_natCast]
      simp
    unfold bv at h0
    simp only [Sem.run_bind, run_load, h0, Result.andThen, e2, e]
    rw [ih]
    simp
theorem bytesOf17 {P : Program} {w : World} {v : Value} {l : List UInt8} (h : Rd w v l) : (Extern.Bytes.bytesOf v).run P w = .ok ⟨l.toArray⟩ w := by
  rcases h with ⟨rfl, h⟩ | ⟨x, cap, rfl, -, -, h4⟩
  · rw [List.map_eq_nil_iff] at h
    subst h
    rfl
  · have := run_loadBytes17 (P := P) w l x [] h4
    rw [List.nil_append] at this
    rw [List.length_map]
    exact this
theorem run_compare17 {P : Program} {w : World} {u v : Value} {a b : List UInt8} (hu : Rd w u a) (hv : Rd w v b) :
    (Extern.BytealgCompare.compare #[u, v]).run P w = .ok (.int .i64 (cmpB a b)) w := by
  change Sem.run P (do pure (goInt (Extern.BytealgCompare.cmp (← Extern.Bytes.bytesOf u) (← Extern.Bytes.bytesOf v)))) w = _
  simp only [Sem.run_bind, bytesOf17 hu, bytesOf17 hv, Sem.run_pure, Result.andThen]
  rw [Lib.cmp_eq, ← compareBytes_eq]
  rfl
set_option maxRecDepth 100000 in
theorem pCompare17_any (u v : Value) (a b : List UInt8) (w : World) (hu : Rd w u a) (hv : Rd w v b) :
    Calls Tryz.prog 176 #[u, v] w fun e w' => e = .returned (.int .i64 (cmpB a b)) ∧ w = w' := by
  have HR := Lib.hid (run_compare17 (P := Tryz.prog) hu hv)
  clear hu hv
  go_enter Tryz.func176, Tryz.ntmps176
  go_wp2
  rw [run_callFunc_extern Tryz.func178 (by kernel_rfl) (by kernel_rfl) (by kernel_rfl) (e := Extern.BytealgCompare.compare) (by kernel_rfl), HR.out]
  simp only [Result.andThen]
  rw [Oper.upon_value]
  go_wp2
  go_ret
  exact ⟨rfl, rfl⟩
end Go.Proofs.YtaoegcakefodaaaGreat

namespace Go.Proofs.YtaoegcakefodaaaGreat
def tk (l : List UInt8) : Nat × List UInt8 × Bool := if (front l).2 = 0 then (0, [], true) else ((front l).1, l.drop (front l).2, false)
theorem tk_enc (n : Nat) (t : List UInt8) (hn : n < 2 ^ 64) : tk (enc n ++ t) = (n, t, false) := by
  unfold tk
  rw [front_enc n t hn]
  have := enc_pos n
  rw [if_neg (by simp only; omega)]
  simp
theorem tk_lt (l : List UInt8) : (tk l).1 < 2 ^ 64 := by
  unfold tk
  split
  · simp
  · rename_i h
    exact (front_sound l (front l).1 (front l).2 rfl h).1
theorem tk_bad {l : List UInt8} (h : (tk l).2.2 = true) : tk l = (0, [], true) := by
  unfold tk at h ⊢
  split
  · rfl
  · rename_i hn; rw [if_neg hn] at h; cases h
theorem tk_ok {l : List UInt8} (h : (front l).2 ≠ 0) : tk l = ((front l).1, l.drop (front l).2, false) := by
  unfold tk
  rw [if_neg h]
theorem tk_no {l : List UInt8} (h : (front l).2 = 0) : tk l = (0, [], true) := by
  unfold tk
  rw [if_pos h]
theorem tk_len (l : List UInt8) : (tk l).2.1.length ≤ l.length ∧ ((tk l).2.2 = false → (tk l).2.1.length + 1 ≤ l.length) := by
  by_cases h : (front l).2 = 0
  · rw [tk_no h]
    exact ⟨Nat.zero_le _, fun h => by cases h⟩
  · rw [tk_ok h]
    obtain ⟨h1, h2, h3⟩ := front_sound l (front l).1 (front l).2 rfl h
    have h4 := congrArg List.length h3
    rw [List.length_append] at h4
    have h5 := enc_pos (front l).1
    generalize (front l).1 = q at h4 h5
    generalize l.drop (front l).2 = r at h4
    exact ⟨show r.length ≤ l.length by omega, fun _ => show r.length + 1 ≤ l.length by omega⟩
end Go.Proofs.YtaoegcakefodaaaGreat

namespace Go.Proofs.YtaoegcakefodaaaGreat
open Go.RowKit
def numCut : List UInt8 → Bool
  | [] => true
  | [c] => decide (247 < c.toNat)
  | c :: d :: t => decide (t.length + 2 + 247 ≤ c.toNat) && !(d == 0)
def textCut (b : List UInt8) : Bool := if numCut b = true then decide (cmpB b (enc 1024) ≤ 0) else decide ((tk b).1 ≤ 1024 ∧ (tk b).2.1.length < (tk b).1)
def valCut : List UInt8 → Bool
  | [] => true
  | c :: t => if c = 1 then decide (t.length = 0) else if c = 2 then numCut t else if c = 3 then textCut t else false
theorem take_app {α : Type} (a t : List α) (m : Nat) (h : a.length ≤ m) : (a ++ t).take m = a ++ t.take (m - a.length) := by
  rw [List.take_append, List.take_of_length_le h]
theorem enc_second {n : Nat} (hn : n < 2 ^ 64) {c d : UInt8} {l : List UInt8} (h : enc n = c :: d :: l) : d ≠ 0 := by
  intro hd
  subst hd
  have hf := front_enc n [] hn
  rw [List.append_nil, h] at hf
  obtain ⟨c', l', h1, h2⟩ := enc_head n hn
  rw [h] at h1
  simp only [List.cons.injEq] at h1
  obtain ⟨rfl, rfl⟩ := h1
  simp only [List.length_cons] at h2
  simp only [front] at hf
  rw [if_neg (by omega), if_neg (by simp only [List.length_cons]; omega)] at hf
  split at hf
  · simp only [Prod.mk.injEq, List.length_cons] at hf
    omega
  · rename_i hno
    apply hno
    by_cases h1 : 1 < c.toNat - 247
    · exact .inr ⟨h1, rfl⟩
    · left
      rw [show c.toNat - 247 = 1 by omega]
      simp [val]
theorem numCut_enc {n : Nat} (hn : n < 2 ^ 64) (t b : List UInt8) (m : Nat) (hb : b = (enc n ++ t).take m) : numCut b = decide (b.length < (enc n).length) := by
  obtain ⟨c, l, h1, h2⟩ := enc_head n hn
  cases b with
  | nil => rw [h1]; rfl
  | cons c' b =>
    rw [h1] at hb ⊢
    have hm : m = (m - 1) + 1 := by
      cases m with
      | zero => simp at hb
      | succ k => omega
    rw [hm, List.cons_append, List.take_succ_cons] at hb
    simp only [List.cons.injEq] at hb
    obtain ⟨rfl, hb⟩ := hb
    cases b with
    | nil =>
      simp only [numCut, List.length_cons, List.length_nil]
      rw [decide_eq_decide]
      omega
    | cons d b =>
      simp only [numCut, List.length_cons]
      cases l with
      | nil =>
        simp only [List.length_nil] at h2 ⊢
        rw [decide_eq_false (by omega), Bool.false_and, decide_eq_false (by omega)]
      | cons d' l =>
        have hm2 : m - 1 = (m - 2) + 1 := by
          cases h3 : m - 1 with
          | zero => rw [h3] at hb; simp at hb
          | succ k => omega
        rw [hm2, List.cons_append, List.take_succ_cons] at hb
        simp only [List.cons.injEq] at hb
        obtain ⟨rfl, hb⟩ := hb
        have hd := enc_second hn h1
        have hd2 : (d == 0) = false := beq_eq_false_iff_ne.2 hd
        rw [hd2]
        simp only [List.length_cons] at h2 ⊢
        rw [Bool.not_false, Bool.and_true, decide_eq_decide]
        omega
theorem less_prefix (a : List UInt8) (c : UInt8) (t : List UInt8) : a < a ++ c :: t := by
  induction a with
  | nil => exact List.nil_lt_cons _ _
  | cons x a ih => exact List.cons_lt_cons_iff.2 (.inr ⟨rfl, ih⟩)
theorem prefix_le {b : List UInt8} {k m : Nat} (hk : k ≤ 1024) (hb : b = (enc k).take m) (hl : b.length < (enc k).length) : cmpB b (enc 1024) ≤ 0 := by
  have h1 : enc k = b ++ (enc k).drop m := by rw [hb, List.take_append_drop]
  have h2 : b < enc k := by
    cases hd : (enc k).drop m with
    | nil =>
      rw [hd, List.append_nil] at h1
      rw [h1] at hl
      omega
    | cons c t =>
      rw [hd] at h1
      conv => rhs; rw [h1]
      exact less_prefix b c t
  have h3 : b < enc 1024 := by
    by_cases e : k = 1024
    · exact e ▸ h2
    · have h4 := enc_less k 1024 (by omega) (by omega)
      rw [decide_eq_true (by omega)] at h4
      exact List.lt_trans h2 ((less_iff _ _).1 h4)
  have h5 := cmpB_lt.2 h3
  omega
theorem textCut_enc {s : List UInt8} (hs : s.length ≤ 1024) (t b : List UInt8) (m : Nat) (hb : b = ((enc s.length ++ s) ++ t).take m) : textCut b = decide (b.length < (enc s.length ++ s).length) := by
  rw [List.append_assoc] at hb
  have hn := numCut_enc (show s.length < 2 ^ 64 by omega) (s ++ t) b m hb
  have hbl : b.length ≤ m := by rw [hb, List.length_take]; omega
  unfold textCut
  rw [hn, List.length_append]
  by_cases hlt : b.length < (enc s.length).length
  · rw [decide_eq_true hlt, if_pos rfl, decide_eq_true (show b.length < (enc s.length).length + s.length by omega)]
    rw [decide_eq_true]
    have hm : m ≤ (enc s.length).length := by
      rw [hb, List.length_take, List.length_append] at hlt
      omega
    refine prefix_le hs (m := m) ?_ hlt
    rw [hb, List.take_append_of_le_length hm]
  · rw [decide_eq_false hlt, if_neg (by decide)]
    have hb2 : b = enc s.length ++ (s ++ t).take (m - (enc s.length).length) := by
      rw [hb, take_app _ _ _ (by omega)]
    generalize hr : (s ++ t).take (m - (enc s.length).length) = r at hb2
    have htk : tk b = (s.length, r, false) := by rw [hb2, tk_enc _ _ (by omega)]
    rw [htk, decide_eq_decide, hb2, List.length_append]
    simp only
    omega
theorem valCut_enc {v : V} (hv : v.fits) (hr : rightV v = true) (t b : List UInt8) (m : Nat) (hb : b = (encV v ++ t).take m) : valCut b = decide (b.length < (encV v).length) := by
  obtain ⟨k, n, s⟩ := v
  have hz := zig_lt n hv.lo hv.hi
  have he : encV ⟨k, n, s⟩ = UInt8.ofNat k.toNat :: (if k = 1 ∨ k = 2 then enc (zig n) else if k = 3 then enc s.length ++ s else []) := by
    unfold encV
    rw [if_pos hr]
  cases b with
  | nil =>
    have := encV_pos ⟨k, n, s⟩
    rw [decide_eq_true (by rw [List.length_nil]; omega)]
    rfl
  | cons c b =>
    rw [he] at hb ⊢
    have hm : m = (m - 1) + 1 := by
      cases m with
      | zero => simp at hb
      | succ k => omega
    rw [hm, List.cons_append, List.take_succ_cons] at hb
    simp only [List.cons.injEq] at hb
    obtain ⟨hc, hb⟩ := hb
    subst hc
    rcases (rightV_iff _).1 hr with ⟨h1, h2, h3⟩ | ⟨h1, h2, h3⟩ | ⟨h1, h2⟩ | ⟨h1, h2, h3⟩
    · simp only at h1
      subst h1
      rw [if_neg (by decide), if_neg (by decide)] at hb ⊢
      show false = _
      rw [decide_eq_false]
      simp
    · simp only at h1 h2
      subst h1
      rw [if_pos (by decide)] at hb ⊢
      have hz2 : (enc (zig n)).length = 1 := by
        rcases h2 with rfl | rfl <;> rfl
      show decide (b.length = 0) = _
      rw [decide_eq_decide]
      simp only [List.length_cons, hz2]
      omega
    · simp only at h1
      subst h1
      rw [if_pos (by decide)] at hb ⊢
      show numCut b = _
      rw [numCut_enc hz t b (m - 1) hb, decide_eq_decide]
      simp only [List.length_cons]
      omega
    · simp only at h1 h3
      subst h1
      rw [if_neg (by decide), if_pos rfl] at hb ⊢
      show textCut b = _
      rw [textCut_enc h3 t b (m - 1) hb, decide_eq_decide]
      simp only [List.length_cons]
      omega
def padB (b : List UInt8) (n : Nat) : List UInt8 := b ++ zeros (56 * n - b.length)
theorem padB_length {b : List UInt8} {n : Nat} (h : b.length ≤ 56 * n) : (padB b n).length = 56 * n := by
  unfold padB zeros
  rw [List.length_append, List.length_replicate]
  omega
theorem padB_page {b : List UInt8} {n j : Nat} (h : b.length ≤ 56 * n) (hj : j < n) : ((padB b n).drop (56 * j)).take 56 = fill ((b.drop (56 * j)).take 56) := by
  unfold padB fill zeros
  apply List.ext_getElem?
  intro i
  rw [List.getElem?_take, List.getElem?_drop, List.getElem?_append, List.getElem?_append, List.length_take, List.length_drop]
  by_cases hi : i < 56
  · rw [if_pos hi]
    by_cases h2 : 56 * j + i < b.length
    · rw [if_pos h2, if_pos (by omega), List.getElem?_take, if_pos hi, List.getElem?_drop]
    · rw [if_neg h2, if_neg (by omega), List.getElem?_replicate, List.getElem?_replicate, if_pos (by omega), if_pos (by omega)]
  · rw [if_neg hi, if_neg (by omega), List.getElem?_replicate, if_neg (by omega)]
theorem padB_more {b : List UInt8} {n m pos : Nat} (h : b.length ≤ 56 * n) (hm : m < n) (hp : pos ≤ 56 * m) : (((padB b n).take (56 * m)).drop pos) ++ fill ((b.drop (56 * m)).take 56) = ((padB b n).take (56 * (m + 1))).drop pos := by
  rw [← padB_page h hm]
  have hl := padB_length h
  have e : (padB b n).take (56 * (m + 1)) = (padB b n).take (56 * m) ++ ((padB b n).drop (56 * m)).take 56 := by
    rw [show 56 * (m + 1) = 56 * m + 56 by omega, List.take_add]
  rw [e, List.drop_append_of_le_length (by rw [List.length_take]; omega)]
theorem padB_rest (b : List UInt8) (n m pos : Nat) : ((padB b n).take (56 * m)).drop pos = ((padB b n).drop pos).take (56 * m - pos) := by
  rw [List.drop_take]
theorem padB_rest_len {b : List UInt8} {n m : Nat} (pos : Nat) (h : b.length ≤ 56 * n) (hm : m ≤ n) : (((padB b n).take (56 * m)).drop pos).length = 56 * m - pos := by
  rw [List.length_drop, List.length_take, padB_length h]
  omega
end Go.Proofs.YtaoegcakefodaaaGreat

namespace Go.Proofs.YtaoegcakefodaaaGreat
open Go.RowKit Go.BigFrame
theorem Only.below {B b : Nat} {w w' : World} (h : Only b w w') (hb : B ≤ b) (hB : B ≤ w.heap.size) : Below B w w' :=
  (Below.refl B w).grown h hB (fun k hk => by cases hk; exact hb)
theorem Rdr.mono {T : TypeId} {B b : Nat} {w w' : World} {l : List UInt8} {bad : Bool} (h : RdrT T B w b l bad) (hb : Below w.heap.size w w') : RdrT T B w' b l bad := by
  obtain ⟨v, h1, h2, h3⟩ := h
  exact ⟨v, (hb.block b (Array.getElem?_eq_some_iff.1 h1).1).trans h1, h2.mono hb, h3⟩
end Go.Proofs.YtaoegcakefodaaaGreat

namespace Go.Proofs.YtaoegcakefodaaaGreat
open Go.RowKit Go.BigFrame
def RdrP (T : TypeId) (P : Nat → Prop) (w : World) (b : Nat) (l : List UInt8) (bad : Bool) : Prop :=
  ∃ v, w.heap[b]? = some (.cells #[v, .bool bad] T (0, 0)) ∧ Rd w v l ∧ ∀ k, v.ownBlock = some k → P k
theorem RdrP.step {T : TypeId} {P : Nat → Prop} {b s cap L : Nat} {w : World} {x : Addr} {l : List UInt8} {bad : Bool} (hb : w.heap[b]? = some (.cells #[.slice (some x) L cap, .bool bad] T (0, 0))) (hL : L = l.length) (h2 : l.length ≤ cap) (h3 : cap ≤ maxLen)
    (h4 : ∀ i u, (l.map bv)[i]? = some u → w.cell? (x.add i) = some u) (hB : P x.block) (hs : s ≤ l.length) (a' : Addr) (ha : a'.block = x.block) (ha' : s < l.length → ∀ i, a'.add i = x.add (s + i)) :
    RdrP T P (w.setCell ⟨b, 0, none⟩ (.slice (some a') (L - s) (cap - s))) b (l.drop s) bad ∧ Only b w (w.setCell ⟨b, 0, none⟩ (.slice (some a') (L - s) (cap - s))) := by
  have ho : Only b w (w.setCell ⟨b, 0, none⟩ (.slice (some a') (L - s) (cap - s))) := ⟨rfl, rfl, rfl, by simp [World.setCell], fun k _ hk => by
    have hne : k ≠ b := fun e => hk (by rw [e])
    rw [Below.heap_setCell _ _ _ _ hne]⟩
  refine ⟨⟨.slice (some a') (L - s) (cap - s), ?_, Rd.apart hb (fun n hn => by cases hn) (.inr ⟨a', cap - s, by rw [List.length_map, List.length_drop, hL], by rw [List.length_map, List.length_drop]; omega, by omega, fun i u hu => ?_⟩) ho, fun k hk => ?_⟩, ho⟩
  · simp [World.setCell, Array.getElem?_modify, hb]
  · have hi : i < (l.drop s).length := by
      have := (List.getElem?_eq_some_iff.1 hu).1
      simpa using this
    rw [List.length_drop] at hi
    rw [ha' (by omega)]
    refine h4 (s + i) u ?_
    rw [List.map_drop, List.getElem?_drop] at hu
    exact hu
  · cases hk; rw [ha]; exact hB
theorem RdrP.mono {T : TypeId} {P : Nat → Prop} {b : Nat} {w w' : World} {l : List UInt8} {bad : Bool} (h : RdrP T P w b l bad) (hb : Below w.heap.size w w') : RdrP T P w' b l bad := by
  obtain ⟨v, h1, h2, h3⟩ := h
  exact ⟨v, (hb.block b (Array.getElem?_eq_some_iff.1 h1).1).trans h1, h2.mono hb, h3⟩
end Go.Proofs.YtaoegcakefodaaaGreat

namespace Go.Proofs.YtaoegcakefodaaaGreat
open Go.RowKit Go.BigFrame
abbrev RdO (P : Nat → Prop) (w : World) (b : Nat) (l : List UInt8) (bad : Bool) : Prop := RdrP 199 P w b l bad
theorem Bad_anyP (P : Nat → Prop) (b : Nat) (l : List UInt8) (bad : Bool) (w : World) (h : RdO P w b l bad) :
    Calls Tryz.prog 164 #[.pointer (some ⟨b, 0, none⟩)] w fun e w' => e = .returned (.bool bad) ∧ w = w' := by
  obtain ⟨v, hb, hr⟩ := h
  have h1 := Rdr.cell1 hb
  clear hb hr
  go_enter Tryz.func164, Tryz.ntmps164
  go_wp2
  go_ret
  exact ⟨rfl, rfl⟩
theorem RdO.spoilt {T : TypeId} (P : Nat → Prop) {w : World} {b : Nat} {v : Value} {bad : Bool} (hb : w.heap[b]? = some (.cells #[v, .bool bad] T (0, 0))) :
    RdrP T P ((w.setCell ⟨b, 0, none⟩ (.slice none 0 0)).setCell ⟨b, 1, none⟩ (.bool true)) b [] true ∧ Only b w ((w.setCell ⟨b, 0, none⟩ (.slice none 0 0)).setCell ⟨b, 1, none⟩ (.bool true)) := by
  refine ⟨⟨.slice none 0 0, ?_, Rd.nil _, fun k hk => by cases hk⟩, ⟨rfl, rfl, rfl, by simp [World.setCell], fun k _ hk => ?_⟩⟩
  · have hlt : b < w.heap.size := (Array.getElem?_eq_some_iff.1 hb).1
    simp [World.setCell, Array.getElem?_modify, hb]
  · have hne : k ≠ b := fun e => hk (by rw [e])
    rw [Below.heap_setCell _ _ _ _ hne, Below.heap_setCell _ _ _ _ hne]
theorem spoil_anyP (P : Nat → Prop) (b : Nat) (v : Value) (bad : Bool) (w : World) (hb : w.heap[b]? = some (.cells #[v, .bool bad] 199 (0, 0))) :
    Calls Tryz.prog 172 #[.pointer (some ⟨b, 0, none⟩)] w fun e w' => e = .returned (.tuple #[]) ∧ RdO P w' b [] true ∧ Only b w w' := by
  have hS := RdO.spoilt P hb
  have h0 := Rdr.cell0 hb
  have h1 := Rdr.cell1 hb
  have f0 := Rdr.free hb 0
  have f1 := Rdr.free hb 1
  have HS := Lib.hid hS
  clear hb hS
  go_enter Tryz.func172, Tryz.ntmps172
  go_wp2
  go_end0
  exact ⟨rfl, HS.out⟩
theorem RNum_badP (P : Nat → Prop) (b : Nat) (l : List UInt8) (w : World) (h : RdO P w b l true) :
    Calls Tryz.prog 163 #[.pointer (some ⟨b, 0, none⟩)] w fun e w' => e = .returned (.int .u64 0) ∧ w = w' := by
  go_enter Tryz.func163, Tryz.ntmps163
  go_wp2_with fail
  refine (Bad_anyP P b l true _ h).mono ?_
  rintro e w1 ⟨rfl, rfl⟩
  go_wp2_with fail
  go_ret
  exact ⟨rfl, rfl⟩
theorem RNum_noP (P : Nat → Prop) (b : Nat) (l : List UInt8) (w : World) (h : RdO P w b l false) (hf : (front l).2 = 0) :
    Calls Tryz.prog 163 #[.pointer (some ⟨b, 0, none⟩)] w fun e w' => e = .returned (.int .u64 0) ∧ RdO P w' b [] true ∧ Only b w w' := by
  have hz := front_zero hf
  obtain ⟨v, hb, hr, hB⟩ := id h
  have h0 := Rdr.cell0 hb
  have hfst := first_any v l
  rw [hz] at hfst
  have HF := Lib.hid hfst
  have HB := Lib.hid hb
  have HR := Lib.hid hr
  have HH := Lib.hid h
  clear hfst hb hr hB h hz hf
  go_enter Tryz.func163, Tryz.ntmps163
  go_wp2_with fail
  refine (Bad_anyP P b l false _ HH.out).mono ?_
  rintro e w1 ⟨rfl, rfl⟩
  go_wp2_with fail
  refine (HF.out _ HR.out).mono ?_
  rintro e w1 ⟨rfl, rfl⟩
  go_wp2_with fail
  refine (spoil_anyP P b v false _ HB.out).mono ?_
  rintro e w1 ⟨rfl, hs⟩
  have HS := Lib.hid hs
  clear hs
  go_wp2_with fail
  go_ret
  exact ⟨rfl, HS.out⟩
set_option maxHeartbeats 400000 in
theorem RNum_yesP (P : Nat → Prop) (b : Nat) (l : List UInt8) (n s : Nat) (w : World) (h : RdO P w b l false) (hf : front l = (n, s)) (hs : s ≠ 0) :
    Calls Tryz.prog 163 #[.pointer (some ⟨b, 0, none⟩)] w fun e w' => e = .returned (.int .u64 n) ∧ RdO P w' b (l.drop s) false ∧ Only b w w' := by
  obtain ⟨v, hb, hr, hB⟩ := id h
  have hle := front_le hf
  have hfst := first_any v l
  rw [hf] at hfst
  rcases id hr with ⟨rfl, h1⟩ | ⟨x, cap, rfl, h2, h3, h4⟩
  · have : l = [] := by simpa using h1
    subst this
    simp [front] at hf
    omega
  · rw [List.length_map] at h2 hb hr hfst
    obtain ⟨c, t, rfl⟩ : ∃ c t, l = c :: t := by
      cases l with
      | nil => simp [front] at hf; omega
      | cons c t => exact ⟨c, t, rfl⟩
    have hc0 := h4 0 (bv c) (by simp)
    rw [add_zero] at hc0
    obtain ⟨bb, off, rfl, _⟩ := plain_of hc0
    obtain ⟨L, hL⟩ : ∃ L, L = (c :: t).length := ⟨_, rfl⟩
    rw [← hL] at h2 hb hr hfst hle
    have hBb : P bb := hB bb rfl
    have hstep := fun a' ha ha' => RdrP.step (s := s) hb hL (by omega) h3 h4 hBb (by omega) a' ha ha'
    have h0 := Rdr.cell0 hb
    have f0 := Rdr.free hb 0
    unfold maxLen at h3
    have HF := Lib.hid hfst
    have HR := Lib.hid hr
    have HH := Lib.hid h
    have HS := Lib.hid hstep
    have HL := Lib.hid hL
    have hs0 : ((s : Int) == 0) = false := by rw [beq_eq_false_iff_ne]; omega
    clear hfst hb hr hB h hf hc0 hstep h4 hL
    go_enter Tryz.func163, Tryz.ntmps163
    go_wp2_with fail
    refine (Bad_anyP P b (c :: t) false _ HH.out).mono ?_
    rintro e w1 ⟨rfl, rfl⟩
    go_wp2_with fail
    refine (HF.out _ HR.out).mono ?_
    rintro e w1 ⟨rfl, rfl⟩
    by_cases hcs : cap = s
    · subst hcs
      have HS' := Lib.hid (HS.out ⟨bb, off, none⟩ rfl (fun hh => absurd hh (by rw [← HL.out]; omega)))
      rw [Nat.sub_self, show L - cap = 0 by omega] at HS'
      go_wp2
      go_ret
      exact ⟨rfl, HS'.out⟩
    · go_wp2
      go_ret
      exact ⟨rfl, HS.out ⟨bb, off + s, none⟩ rfl (fun _ i => add_add bb off s i)⟩
theorem Left_badP (P : Nat → Prop) (b : Nat) (l : List UInt8) (w : World) (h : RdO P w b l true) :
    Calls Tryz.prog 165 #[.pointer (some ⟨b, 0, none⟩)] w fun e w' => e = .returned (.int .i64 0) ∧ w = w' := by
  go_enter Tryz.func165, Tryz.ntmps165
  go_wp2_with fail
  refine (Bad_anyP P b l true _ h).mono ?_
  rintro e w1 ⟨rfl, rfl⟩
  go_wp2_with fail
  go_ret
  exact ⟨rfl, rfl⟩
theorem Left_anyP (P : Nat → Prop) (b : Nat) (l : List UInt8) (w : World) (h : RdO P w b l false) :
    Calls Tryz.prog 165 #[.pointer (some ⟨b, 0, none⟩)] w fun e w' => e = .returned (.int .i64 l.length) ∧ w = w' := by
  obtain ⟨v, hb, hr, _⟩ := id h
  obtain ⟨a, cap, rfl, _, _⟩ := hr.shape
  have h0 := Rdr.cell0 hb
  clear hb hr
  go_enter Tryz.func165, Tryz.ntmps165
  go_wp2_with fail
  refine (Bad_anyP P b l false _ h).mono ?_
  rintro e w1 ⟨rfl, rfl⟩
  go_wp2_with fail
  go_ret
  exact ⟨rfl, rfl⟩
theorem RdO.emptied {T : TypeId} (P : Nat → Prop) {w : World} {b : Nat} {v : Value} {bad : Bool} (hb : w.heap[b]? = some (.cells #[v, .bool bad] T (0, 0))) :
    RdrP T P (w.setCell ⟨b, 0, none⟩ (.slice none 0 0)) b [] bad ∧ Only b w (w.setCell ⟨b, 0, none⟩ (.slice none 0 0)) := by
  refine ⟨⟨.slice none 0 0, ?_, Rd.nil _, fun k hk => by cases hk⟩, ⟨rfl, rfl, rfl, by simp [World.setCell], fun k _ hk => ?_⟩⟩
  · simp [World.setCell, Array.getElem?_modify, hb]
  · have hne : k ≠ b := fun e => hk (by rw [e])
    rw [Below.heap_setCell _ _ _ _ hne]
def MadeP (w : World) (l : List UInt8) (r : Ending) (w' : World) : Prop := ∃ b, r = .returned (.pointer (some ⟨b, 0, none⟩)) ∧ w.heap.size ≤ b ∧ b < w'.heap.size ∧ RdO (fun k => w.heap.size ≤ k ∧ k < b) w' b l false ∧ Below w.heap.size w w'
theorem New_anyP (v : Value) (l : List UInt8) (w : World) (hr : Rd w v l) (h1 : l.length ≤ 140737488355328) : Calls Tryz.prog 162 #[v] w (MadeP w l) := by
  go_enter Tryz.func162, Tryz.ntmps162
  go_wp2_with fail
  refine (clone_any v l _ hr h1).mono ?_
  rintro e w1 ⟨v1, rfl, hown1, hb1⟩
  have hr1 : Rd w1 v1 l := RdV.of_owns hown1
  obtain ⟨a1, cap1, rfl, _, _⟩ := hr1.shape
  go_wp2_with fail
  go_ret
  exact ⟨_, rfl, hb1.size, by simp, ⟨_, heap_alloc_new w1 _, Rd.mono hr1 ((Below.refl _ _).alloc (Nat.le_refl _) _), fun k hk => hown1.lt k hk⟩, hb1.alloc hb1.size _⟩
end Go.Proofs.YtaoegcakefodaaaGreat

namespace Go.Proofs.YtaoegcakefodaaaGreat
open Go.RowKit Go.BigFrame
theorem RdrP.below {T : TypeId} {P : Nat → Prop} {N g : Nat} {w w' : World} {l : List UInt8} {bad : Bool} (h : RdrP T P w g l bad) (hb : Below N w w') (hg : g < N) (hP : ∀ k, P k → k < N) : RdrP T P w' g l bad := by
  obtain ⟨v, h1, h2, h3⟩ := h
  have ho : OnlyS (fun k => N ≤ k) w w' := ⟨hb.os, hb.tape, hb.output, hb.size, fun b _ hx => hb.block b (by omega)⟩
  exact ⟨v, (hb.block g hg).trans h1, h2.onlyS ho (fun _ k hk => by have := hP k (h3 k hk); omega), h3⟩
end Go.Proofs.YtaoegcakefodaaaGreat

namespace Go.Proofs.YtaoegcakefodaaaGreat
open Go.RowKit Go.BigFrame
theorem RNum_tk (P : Nat → Prop) (g : Nat) (l : List UInt8) (bad : Bool) (w : World) (hbl : bad = true → l = []) (h : RdO P w g l bad) :
    Calls Tryz.prog 163 #[.pointer (some ⟨g, 0, none⟩)] w fun e w' => e = .returned (.int .u64 (tk l).1) ∧ RdO P w' g (tk l).2.1 (tk l).2.2 ∧ Only g w w' := by
  cases bad with
  | true =>
    have hl := hbl rfl
    subst hl
    rw [tk_no (show (front []).2 = 0 from rfl)]
    exact (RNum_badP P g [] w h).mono fun e w' hh => ⟨hh.1, by rw [← hh.2]; exact h, by rw [← hh.2]; exact Only.refl _ _⟩
  | false =>
    by_cases h0 : (front l).2 = 0
    · rw [tk_no h0]
      exact RNum_noP P g l w h h0
    · rw [tk_ok h0]
      exact RNum_yesP P g l _ _ w h rfl h0
end Go.Proofs.YtaoegcakefodaaaGreat

namespace Go.Proofs.YtaoegcakefodaaaGreat
open Go.RowKit Go.BigFrame
theorem rd_setBelow {B g i : Nat} {w : World} {v u : Value} {l : List UInt8} (hr : Rd w v l) (hB : ∀ k, v.ownBlock = some k → B ≤ k) (hg : g < B) : Rd (w.setCell ⟨g, i, none⟩ u) v l := by
  rcases hr with ⟨rfl, h1⟩ | ⟨x, cap, rfl, h2, _h3, h4⟩
  · exact .inl ⟨rfl, h1⟩
  · have hx : B ≤ x.block := hB _ rfl
    refine .inr ⟨x, cap, rfl, h2, _h3, fun k y hk => ?_⟩
    rw [World.cell?_of_block (w := w) (Below.heap_setCell _ _ _ _ (by rw [add_block]; show x.block ≠ g; omega))]
    exact h4 k y hk
end Go.Proofs.YtaoegcakefodaaaGreat

namespace Go.Proofs.YtaoegcakefodaaaGreat
open Go.RowKit Go.BigFrame
theorem takeV_no1 (t : List UInt8) (c : UInt8) (hc : c = 1 ∨ c = 2) (hf : (front t).2 = 0) : takeV (c :: t) = none := by
  unfold takeV
  dsimp only
  rw [if_neg (by rcases hc with rfl | rfl <;> decide), if_pos hc, if_pos hf]
theorem takeV_yes1 (t : List UInt8) (c : UInt8) (hc : c = 1 ∨ c = 2) (hf : (front t).2 ≠ 0) (hr : rightV ⟨(c.toNat : Int), zag (front t).1, []⟩ = true) : takeV (c :: t) = some (⟨(c.toNat : Int), zag (front t).1, []⟩, t.drop (front t).2) := by
  unfold takeV
  dsimp only
  rw [if_neg (by rcases hc with rfl | rfl <;> decide), if_pos hc, if_neg hf, if_pos hr]
theorem takeV_wrong1 (t : List UInt8) (c : UInt8) (hc : c = 1 ∨ c = 2) (hf : (front t).2 ≠ 0) (hr : rightV ⟨(c.toNat : Int), zag (front t).1, []⟩ = false) : takeV (c :: t) = none := by
  unfold takeV
  dsimp only
  rw [if_neg (by rcases hc with rfl | rfl <;> decide), if_pos hc, if_neg hf, if_neg (by rw [hr]; decide)]
theorem takeV_no3 (t : List UInt8) (hf : (front t).2 = 0) : takeV (3 :: t) = none := by
  unfold takeV
  dsimp only
  rw [if_neg (by decide), if_neg (by decide), if_pos rfl, if_pos hf]
theorem takeV_yes3 (t : List UInt8) (hf : (front t).2 ≠ 0) (hn : (front t).1 ≤ 1024 ∧ (front t).1 ≤ (t.drop (front t).2).length) : takeV (3 :: t) = some (⟨3, 0, (t.drop (front t).2).take (front t).1⟩, (t.drop (front t).2).drop (front t).1) := by
  unfold takeV
  dsimp only
  rw [if_neg (by decide), if_neg (by decide), if_pos rfl, if_neg hf, if_pos hn]
theorem takeV_long3 (t : List UInt8) (hf : (front t).2 ≠ 0) (hn : ¬ ((front t).1 ≤ 1024 ∧ (front t).1 ≤ (t.drop (front t).2).length)) : takeV (3 :: t) = none := by
  unfold takeV
  dsimp only
  rw [if_neg (by decide), if_neg (by decide), if_pos rfl, if_neg hf, if_neg hn]
theorem zag_fits (k : Int) (h0 : 0 ≤ k) (h1 : k ≤ 255) (n : Nat) (hn : n < 2 ^ 64) : (⟨k, zag n, []⟩ : V).fits := by
  refine ⟨h0, h1, ?_, ?_⟩
  · show -9223372036854775808 ≤ zag n
    unfold zag
    split <;> omega
  · show zag n ≤ 9223372036854775807
    unfold zag
    split <;> omega
theorem fits_no (k : Int) (s : List UInt8) (h0 : 0 ≤ k) (h1 : k ≤ 255) : (⟨k, 0, s⟩ : V).fits := by
  refine ⟨h0, h1, ?_, ?_⟩
  · show -9223372036854775808 ≤ (0 : Int); decide
  · show (0 : Int) ≤ 9223372036854775807; decide
end Go.Proofs.YtaoegcakefodaaaGreat

