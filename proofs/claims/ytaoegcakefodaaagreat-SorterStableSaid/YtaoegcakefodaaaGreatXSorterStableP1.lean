/-
  Texts of this proof, merged.
-/
import Derived.Test.YtaoegcakefodaaaGreatZ1
import Derived.Test.YtaoegcakefodaaaGreatY1
import Derived.Test.YtaoegcakefodaaaGreatZ2
import Derived.Test.YtaoegcakefodaaaGreatZ3
import Derived.Test.YtaoegcakefodaaaGreatZ4
import Derived.Test.YtaoegcakefodaaaGreatZ5
import Derived.Test.YtaoegcakefodaaaGreatZ6
import Derived.Test.YtaoegcakefodaaaGreatZ7
import Derived.Test.YtaoegcakefodaaaGreatY2
import Derived.Test.YtaoegcakefodaaaGreatZ8
import Derived.Test.YtaoegcakefodaaaGreatZ9
import Derived.Test.YtaoegcakefodaaaGreatZ10
import Derived.Test.YtaoegcakefodaaaGreatZ11
import Derived.Test.YtaoegcakefodaaaGreatZ12
import Derived.Test.YtaoegcakefodaaaGreatZ13
import Derived.Test.YtaoegcakefodaaaGreatZ14
import Derived.Test.YtaoegcakefodaaaGreatZ15
import Derived.Test.YtaoegcakefodaaaGreatZ16
import Derived.Test.YtaoegcakefodaaaGreatZ17
import Derived.Test.YtaoegcakefodaaaGreatZ18
import Derived.Test.YtaoegcakefodaaaGreatZ19
import Derived.Test.YtaoegcakefodaaaGreatZ20
import Derived.Test.YtaoegcakefodaaaGreatZ21
import Derived.Test.YtaoegcakefodaaaGreatZ22
import Derived.Test.YtaoegcakefodaaaGreatZ23
import Derived.Test.YtaoegcakefodaaaGreatZ24
namespace Go.Proofs.YtaoegcakefodaaaGreat
open Go.ChangeShapes Go.WideShapes Go.ChangeAt Go.RowKit
section
variable {H : Type} {enc : TypeId × Value → H} {P : Program} {w : World} {base : Nat} {held : Bool}
theorem rdV_row {x : Addr} {len cap : Nat} {xs : List Value} (hl : len ≤ cap) (hm : cap ≤ maxLen) (hz : xs.length = cap) (hc : ∀ i u, xs[i]? = some u → w.cell? (x.add i) = some u) : RdV w (.slice (some x) len cap) (xs.take len) := by
  refine .inr ⟨x, cap, by rw [List.length_take, hz, Nat.min_eq_left hl], by rw [List.length_take]; omega, hm, fun i u hu => hc i u ?_⟩
  rw [List.getElem?_take] at hu
  split at hu
  · exact hu
  · cases hu
theorem read_ints {t e : TypeId} {k : IntKind} {v : Value} {d : DataW H} {ps : List MemPlace} (ht : P.underlying t = some (.slice e)) (he : P.underlying e = some (.int k)) (hc : P.cellsOf e = 1)
    (hv : v.cells.toList = [v]) (h : DataW.Trod enc P w base (fun _ => true) held t v d ps) :
    ∃ zs : List Int, RdV w v (zs.map (Value.int k)) ∧ ∀ n ∈ zs, (Lit.int k n).wf = true := by
  obtain ⟨fuel, hf⟩ := h
  rw [hv] at hf
  rcases open_ints ht he hc hf with ⟨hcs, _⟩ | ⟨x, l, c, zs, hcs, _, hl, hm, hz, _, hcell, hwz⟩
  · obtain rfl : v = .slice none 0 0 := by simpa using hcs
    exact ⟨[], RdV.nil w, by simp⟩
  · obtain rfl : v = .slice (some x) l c := by simpa using hcs
    refine ⟨zs.take l, ?_, fun n hn => hwz n (List.mem_of_mem_take hn)⟩
    rw [List.map_take]
    refine rdV_row hl hm (by simpa using hz) fun i u hu => ?_
    rw [List.getElem?_map] at hu
    obtain ⟨n, hn, rfl⟩ := Option.map_eq_some_iff.1 hu
    have hi : i < zs.length := (List.getElem?_eq_some_iff.1 hn).1
    rw [hcell i hi, List.getD_eq_getElem?_getD, hn]
    rfl
theorem bytes_of_wf : ∀ (zs : List Int), (∀ n ∈ zs, (Lit.int .u8 n).wf = true) → zs.map (Value.int .u8) = (zs.map fun n => UInt8.ofNat n.toNat).map bv
  | [], _ => rfl
  | n :: zs, h => by
    have hn := h n (by simp)
    have hb : 0 ≤ n ∧ n ≤ 255 := bounds_u8 hn
    simp only [List.map_cons]
    rw [bytes_of_wf zs fun m hm => h m (by simp [hm])]
    congr 1
    unfold bv
    rw [UInt8.toNat_ofNat']
    congr 1
    omega
theorem read_bytes {t e : TypeId} {v : Value} {d : DataW H} {ps : List MemPlace} (ht : P.underlying t = some (.slice e)) (he : P.underlying e = some (.int .u8)) (hc : P.cellsOf e = 1)
    (hv : v.cells.toList = [v]) (h : DataW.Trod enc P w base (fun _ => true) held t v d ps) : ∃ l : List UInt8, Rd w v l := by
  obtain ⟨zs, hr, hw⟩ := read_ints ht he hc hv h
  rw [bytes_of_wf zs hw] at hr
  exact ⟨_, hr⟩
end
end Go.Proofs.YtaoegcakefodaaaGreat

namespace Go.Proofs.YtaoegcakefodaaaGreat.OrdPure
variable {α : Type} {f : α → α → Int}
theorem rising_of_next (hf : Pre f) {l : List α} (h : ∀ i, (hi : i + 1 < l.length) → f (l[i]'(by omega)) l[i + 1] ≤ 0) : Rising f l := by
  rw [rising_iff]
  intro i j hi
  obtain ⟨d, rfl⟩ : ∃ d, j = i + 1 + d := ⟨j - (i + 1), by omega⟩
  induction d with
  | zero => intro hj; exact h i hj
  | succ d ih =>
    intro hj
    exact hf.trans _ _ _ (ih (by omega) (by omega)) (h (i + 1 + d) hj)
theorem Stable.order (hf : Pre f) {l p q : List α} {a b : α} {R : α → α → Prop} (hR : l.Pairwise R) (h : Stable f l (p ++ a :: b :: q)) (hab : f a b = 0) : R a b := by
  have h1 : (same f b (p ++ a :: b :: q)).Pairwise R := by
    rw [← h b]
    exact List.Pairwise.sublist List.filter_sublist hR
  have h2 : same f b (p ++ a :: b :: q) = same f b p ++ a :: b :: same f b q := by
    rw [same_append]
    simp [same, hab, hf.refl]
  rw [h2, List.pairwise_append] at h1
  exact (List.pairwise_cons.1 h1.2.1).1 b (by simp)
end Go.Proofs.YtaoegcakefodaaaGreat.OrdPure

namespace Go.Proofs.YtaoegcakefodaaaGreat
def sortedR (ks : List Ky) (rs : List (List V)) : Bool := decide (OrdPure.Rising (cmpR ks) rs)
theorem sortedR_iff (ks : List Ky) (rs : List (List V)) : OrdPure.Rising (cmpR ks) rs ↔ ∀ i, (hi : i + 1 < rs.length) → cmpR ks (rs[i]'(by omega)) rs[i + 1] ≤ 0 :=
  ⟨fun h i hi => (OrdPure.rising_iff rs).1 h i (i + 1) (by omega) hi, OrdPure.rising_of_next (cmpR_pre ks)⟩
end Go.Proofs.YtaoegcakefodaaaGreat

namespace Go.Proofs.YtaoegcakefodaaaGreat
open Go.RowKit Go.BigFrame
theorem enters_sorted1 : ∀ args w, (callFunc 51 args).run Tryz.prog w = .ok (.enter 51 args) w := enters_of Tryz.func51 (by kernel_rfl) rfl
theorem cmpRowsS_any (kb : Nat) (u v x : Value) (a b : List V) (ks : List Ky) (w : World) (hu : RdVals w u a) (hv : RdVals w v b) (hx : RdKs w x ks) (ha : FitR 5000 a) (hb : FitR 5000 b) (hk : w.cell? ⟨kb, 0, none⟩ = some x) :
    Calls Tryz.prog 51 #[u, v, .pointer (some ⟨kb, 0, none⟩)] w fun e w' => e = .returned (.int .i64 (cmpR ks a b)) ∧ Ext w w' := by
  have HC := Lib.hid (pCompareQ_any u v x a b ks w hu hv hx ha hb)
  obtain ⟨ko, kcap, rfl, -, -⟩ := hx.shape
  clear hu hv hx
  go_enter Tryz.func51, Tryz.ntmps51
  go_wp2_with fail
  refine HC.out.mono ?_
  rintro e w1 ⟨rfl, x1⟩
  have HX := Lib.hid x1
  clear x1
  go_wp2_with fail
  go_ret
  exact ⟨rfl, HX.out⟩
set_option maxRecDepth 100000 in
set_option maxHeartbeats 2000000 in
theorem isSortedFunc_any (kb : Nat) (u x : Value) (rs : List (List V)) (ks : List Ky) (w : World) (hu : RdRV w u rs) (hx : RdKs w x ks) (hf : FitRs 5000 rs) (hk : w.cell? ⟨kb, 0, none⟩ = some x) :
    Calls Tryz.prog 50 #[u, .func (.func 51) #[] #[.pointer (some ⟨kb, 0, none⟩)]] w fun e w' => e = .returned (.bool (sortedR ks rs)) ∧ Ext w w' := by
  obtain ⟨ao, ca, rfl, -, -⟩ := hu.shape
  obtain ⟨as', ha1, -, h1, h2, hca⟩ := hu.rd.heads
  have HA := Lib.hid hca
  have HHA := Lib.hid ha1
  have HEN := enters_sorted1
  have HC := Lib.hid (fun a b u v W (h : Ext w W) (hu : RdVals W u a) (hv : RdVals W v b) (ha : a ∈ rs) (hb : b ∈ rs) => cmpRowsS_any kb u v x a b ks W hu hv (hx.mono h) (hf a ha) (hf b hb) ((h.cell (lt_of_cell hk)).trans hk))
  unfold maxLen at h2
  obtain ⟨N, hN⟩ : ∃ N, rs.length = N := ⟨_, rfl⟩
  have HN := Lib.hid hN
  rw [hN] at h1 ⊢
  clear hu hx hca ha1 hN hf hk
  by_cases h0 : N = 0
  · subst h0
    have HR := Lib.hid (show sortedR ks rs = true from by
      rw [List.eq_nil_of_length_eq_zero HN.out]
      exact decide_eq_true List.Pairwise.nil)
    go_enter Tryz.func50, Tryz.ntmps50
    go_wp2_with fail
    go_loopw [5] (fun i wr => i = .int .i64 (-1) ∧ wr = w) (fun _ _ => 0)
    case atStart => exact ⟨rfl, rfl⟩
    case round =>
      obtain ⟨rfl, rfl⟩ := hrel
      go_wp2_with fail
      go_ret
      exact ⟨by rw [HR.out]; rfl, Ext.keeps.refl _⟩
  · have e0 : (N : Int) - 1 = ((N - 1 : Nat) : Int) := by omega
    go_enter Tryz.func50, Tryz.ntmps50
    go_wp2_with fail
    go_loopw [5] (fun i wr => ∃ I : Nat, I < N ∧ i = .int .i64 I ∧ (∀ i, (h : i + 1 < rs.length) → I < i + 1 → cmpR ks (rs[i]'(by omega)) rs[i + 1] ≤ 0) ∧ Ext w wr) (fun i _ => (intOf i).toNat)
    case atStart => exact ⟨N - 1, by omega, by go_num, fun i h hi => by have := HN.out; omega, Ext.keeps.refl _⟩
    case round =>
      obtain ⟨I, hI, rfl, hs, hext⟩ := hrel
      have HS := Lib.hid hs
      have HE := Lib.hid hext
      clear hs hext e0
      by_cases hlt : 0 < I
      · have hil : I < rs.length := by have := HN.out; omega
        obtain ⟨a1, a2, a3, ha, hra⟩ := HHA.out.get (I - 1) (by omega)
        obtain ⟨b1, b2, b3, hb, hrb⟩ := HHA.out.get I hil
        obtain ⟨g, off, rfl, c0⟩ := HA.out (I - 1) _ ha
        obtain ⟨g', off', hgo, c1⟩ := HA.out I _ hb
        have hgo2 : g' = g ∧ off' = off := by simpa [eq_comm] using hgo
        obtain ⟨rfl, rfl⟩ := hgo2
        have e1 : (I : Int) - 1 = ((I - 1 : Nat) : Int) := by omega
        have d0 : decide ((I : Int) > 0) = true := decide_eq_true (by omega)
        have d0' : decide (I > 0) = true := decide_eq_true hlt
        have z0 : ∀ z : Later Ext wr.drew, z.val.cell? ⟨g', off' + (I - 1), none⟩ = some (.slice a1 a2 a3) := fun z => ((Ext.trans HE.out (Ext.trans (Ext.drew wr) z.ext)).cell (lt_of_cell c0)).trans c0
        have z1 : ∀ z : Later Ext wr.drew, z.val.cell? ⟨g', off' + I, none⟩ = some (.slice b1 b2 b3) := fun z => ((Ext.trans HE.out (Ext.trans (Ext.drew wr) z.ext)).cell (lt_of_cell c1)).trans c1
        have HCC := Lib.hid (HC.out _ _ _ _ wr.drew (Ext.trans HE.out (Ext.drew wr)) (hrb.mono (Ext.trans HE.out (Ext.drew wr))) (hra.mono (Ext.trans HE.out (Ext.drew wr))) (List.getElem_mem _) (List.getElem_mem _))
        have HNEG := Lib.hid (show cmpR ks (rs[I - 1]'(by omega)) rs[I] = -cmpR ks rs[I] (rs[I - 1]'(by omega)) from (cmpR_pre ks).neg _ _)
        have HNX := Lib.hid (show ¬ cmpR ks rs[I] (rs[I - 1]'(by omega)) < 0 → ∀ i, (h : i + 1 < rs.length) → I - 1 < i + 1 → cmpR ks (rs[i]'(by omega)) rs[i + 1] ≤ 0 from fun hc i h hi => by
          by_cases e : i + 1 = I
          · subst e
            have := HNEG.out
            simp only [Nat.add_sub_cancel] at hc this
            omega
          · exact HS.out i h (by omega))
        have HNO := Lib.hid (show cmpR ks rs[I] (rs[I - 1]'(by omega)) < 0 → sortedR ks rs = false from fun hc => decide_eq_false fun h => by
          have h := (OrdPure.rising_iff rs).1 h (I - 1) I (by omega) hil
          have := HNEG.out
          omega)
        generalize cmpR ks rs[I] (rs[I - 1]'(by omega)) = C at HCC HNX HNO
        clear hra hrb ha hb c0 c1 hgo HNEG
        by_cases hC : C < 0
        · have HR := Lib.hid (HNO.out hC)
          have d1 : decide (C < 0) = true := decide_eq_true hC
          clear hC
          go_wp2_with fail
          refine wp_region_segs Ext Ext.keeps [([0, 1, 2, 3, 4, 5, 6, 7, 8, 9], some 10), ([11], none)] (by kernel_rfl) (by kernel_rfl) (fun c a a' w e h => (by exact ⟨e ▸ h.1, h.2⟩)) ?_
          simp only [pickSegs, pickOps, List.map_cons, List.map_nil, Option.map_some, Option.map_none, Option.getD_some, List.getElem?_toArray, List.getElem?_cons_zero, List.getElem?_cons_succ]
          refine wpSegs_some fun K' hK' => ?_
          repeat go_big_quiet_step (fail)
          refine wpQuiet_nil ?_
          clear z0 z1
          go_wp2_with fail
          refine (HCC.out).mono ?_
          rintro e w3 ⟨rfl, hx3⟩
          have HX3 := Lib.hid hx3
          clear hx3
          go_wp2_with fail
          refine ⟨HX3.out, hK' _ _ ?_⟩
          clear hK' K'
          refine wpSegs_none ?_
          repeat go_big_quiet_step (fail)
          refine wpQuiet_nil (wpSegs_nil ?_)
          go_wp2_with fail
          go_ret
          exact ⟨by rw [HR.out]; rfl, Ext.trans HE.out (Ext.trans (Ext.drew wr) HX3.out)⟩
        · have HR := Lib.hid (HNX.out hC)
          have d1 : decide (C < 0) = false := decide_eq_false hC
          clear hC
          go_wp2_with fail
          refine wp_region_segs Ext Ext.keeps [([0, 1, 2, 3, 4, 5, 6, 7, 8, 9], some 10), ([11], none)] (by kernel_rfl) (by kernel_rfl) (fun c a a' w e h => (by exact ⟨e ▸ h.1, h.2⟩)) ?_
          simp only [pickSegs, pickOps, List.map_cons, List.map_nil, Option.map_some, Option.map_none, Option.getD_some, List.getElem?_toArray, List.getElem?_cons_zero, List.getElem?_cons_succ]
          refine wpSegs_some fun K' hK' => ?_
          repeat go_big_quiet_step (fail)
          refine wpQuiet_nil ?_
          clear z0 z1
          go_wp2_with fail
          refine (HCC.out).mono ?_
          rintro e w3 ⟨rfl, hx3⟩
          have HX3 := Lib.hid hx3
          clear hx3
          go_wp2_with fail
          refine ⟨HX3.out, hK' _ _ ?_⟩
          clear hK' K'
          refine wpSegs_none ?_
          repeat go_big_quiet_step (fail)
          refine wpQuiet_nil (wpSegs_nil ?_)
          go_wp2_with fail
          go_roundw
          case rel => exact ⟨I - 1, by omega, by go_num, HR.out, Ext.trans HE.out (Ext.trans (Ext.drew wr) HX3.out)⟩
          case measure => simp [intOf]; omega
      · have HR := Lib.hid (show sortedR ks rs = true from decide_eq_true ((sortedR_iff ks rs).2 fun i h => HS.out i h (by omega)))
        have d0 : decide ((I : Int) > 0) = false := decide_eq_false (by omega)
        have d0' : decide (I > 0) = false := decide_eq_false hlt
        go_wp2_with fail
        go_ret
        exact ⟨by rw [HR.out]; rfl, HE.out⟩
theorem pSortedQ_any (u x : Value) (rs : List (List V)) (ks : List Ky) (w : World) (hu : RdRV w u rs) (hx : RdKs w x ks) (hf : FitL rs) :
    Calls Tryz.prog 29 #[u, x] w fun e w' => e = .returned (.bool (sortedR ks rs)) ∧ Ext w w' := by
  obtain ⟨ko, kcap, rfl, -, -⟩ := hx.shape
  have HX := Lib.hid (ext_new w (.cells #[.slice ko ks.length kcap] 23))
  have HC := Lib.hid (isSortedFunc_any w.heap.size u _ rs ks (w.alloc (.cells #[.slice ko ks.length kcap] 23)) (hu.mono HX.out) (hx.mono HX.out) hf.1 (row_new w [.slice ko ks.length kcap] 23 0 _ rfl))
  have hmf : ∀ (fn : Fn) (first cap : Array Value) (w : World), (Instr.makeFunc fn first cap).run Tryz.prog w = .ok (.func fn first cap) w := fun _ _ _ _ => rfl
  generalize ks.length = KN at HX HC ⊢
  clear hu hx hf
  go_enter Tryz.func29, Tryz.ntmps29
  go_wp2_with fail
  refine HC.out.mono ?_
  rintro e w1 ⟨rfl, x1⟩
  have HX1 := Lib.hid (Ext.trans HX.out x1)
  clear x1
  go_wp2_with fail
  go_ret
  exact ⟨rfl, HX1.out⟩
end Go.Proofs.YtaoegcakefodaaaGreat

namespace Go.Proofs.YtaoegcakefodaaaGreat
open Go.RowKit Go.BigFrame
theorem pSorted15_any (u x : Value) (rs : List (List V)) (ks : List Ky) (w : World) (hu : RdRV w u rs) (hx : RdKs w x ks) (hf : FitL rs) (_hl : rs.length ≤ 100000) :
    Calls Tryz.prog 29 #[u, x] w fun e w' => e = .returned (.bool (sortedR ks rs)) ∧ Ext w w' :=
  pSortedQ_any u x rs ks w hu hx hf
end Go.Proofs.YtaoegcakefodaaaGreat

namespace Go.Proofs.YtaoegcakefodaaaGreat
open Go.RowKit
def stabRow (a i : Nat) : List V := [⟨2, (a : Int), []⟩, ⟨2, (i : Int), []⟩]
def StabL (X : List (List V)) : Prop := ∀ i, (h : i < X.length) → ∃ a : Nat, a < 4 ∧ X[i] = stabRow a i
def key0 : List Ky := [⟨0, false⟩]
def key01 : List Ky := [⟨0, false⟩, ⟨1, false⟩]
def tag1 (r : List V) : Int := match r[1]? with | some v => v.n | none => 0
theorem StabL.nil : StabL [] := fun _ h => absurd h (Nat.not_lt_zero _)
theorem StabL.snoc {X : List (List V)} (h : StabL X) {a : Nat} (ha : a < 4) : StabL (X ++ [stabRow a X.length]) := by
  intro i hi
  rw [List.length_append, List.length_singleton] at hi
  by_cases hl : i < X.length
  · have e : (X ++ [stabRow a X.length])[i]'(by rw [List.length_append]; omega) = X[i] := List.getElem_append_left hl
    rw [e]
    exact h i hl
  · obtain rfl : i = X.length := by omega
    exact ⟨a, ha, by simp⟩
theorem StabL.mem {X : List (List V)} (h : StabL X) {r : List V} (hr : r ∈ X) : ∃ a i : Nat, a < 4 ∧ i < X.length ∧ r = stabRow a i := by
  obtain ⟨i, hi, rfl⟩ := List.mem_iff_getElem.1 hr
  obtain ⟨a, ha, e⟩ := h i hi
  exact ⟨a, i, ha, hi, e⟩
theorem StabL.up {X : List (List V)} (h : StabL X) : X.Pairwise fun a b => tag1 a < tag1 b := by
  rw [List.pairwise_iff_getElem]
  intro i j hi hj hij
  obtain ⟨a, -, e1⟩ := h i hi
  obtain ⟨b, -, e2⟩ := h j hj
  rw [e1, e2]
  simp only [tag1, stabRow, List.getElem?_cons_succ, List.getElem?_cons_zero]
  omega
theorem cmp_stab1 (a i b j : Nat) : cmpK ⟨1, false⟩ (stabRow a i) (stabRow b j) = cmpN (i : Int) j := by
  unfold cmpK
  simp only [Bool.false_eq_true, false_and, if_false]
  show cmpV ⟨2, (i : Int), []⟩ ⟨2, (j : Int), []⟩ = _
  unfold cmpV
  simp only [if_true]
  by_cases e : (i : Int) = j
  · rw [if_pos e, e]
    have : cmpN (j : Int) j = 0 := cmpN_zero.2 rfl
    rw [this]
    exact cmpB_zero.2 rfl
  · rw [if_neg e]
theorem cmp_stab01 (a i b j : Nat) (h : cmpR key0 (stabRow a i) (stabRow b j) ≤ 0) (h2 : cmpR key0 (stabRow a i) (stabRow b j) = 0 → i < j) : cmpR key01 (stabRow a i) (stabRow b j) ≤ 0 := by
  have h3 : cmpR key01 (stabRow a i) (stabRow b j) = if cmpK ⟨0, false⟩ (stabRow a i) (stabRow b j) = 0 then cmpR [⟨1, false⟩] (stabRow a i) (stabRow b j) else cmpK ⟨0, false⟩ (stabRow a i) (stabRow b j) := rfl
  have h4 : cmpR key0 (stabRow a i) (stabRow b j) = cmpK ⟨0, false⟩ (stabRow a i) (stabRow b j) := by
    unfold key0
    simp only [cmpR]
    split
    · rename_i e
      exact e.symm
    · rfl
  rw [h4] at h h2
  rw [h3]
  split
  · rename_i e
    have hij := h2 e
    have h5 : cmpR [⟨1, false⟩] (stabRow a i) (stabRow b j) = cmpN (i : Int) j := by
      simp only [cmpR]
      rw [cmp_stab1]
      split
      · rename_i e
        exact e.symm
      · rfl
    rw [h5]
    have := cmpN_lt.2 (show (i : Int) < j by omega)
    omega
  · exact h
theorem StabL.sorted {X : List (List V)} (h : StabL X) : sortedR key01 (sortS key0 X) = true := by
  unfold sortedR
  rw [decide_eq_true_eq, sortedR_iff]
  intro i hi
  have hs := sortS_is key0 X
  have hm : ∀ k, (hk : k < (sortS key0 X).length) → ∃ a j : Nat, a < 4 ∧ j < X.length ∧ (sortS key0 X)[k] = stabRow a j := fun k hk => h.mem ((hs.mem (cmpR_pre key0)).1 (List.getElem_mem hk))
  have hle : cmpR key0 ((sortS key0 X)[i]'(by omega)) (sortS key0 X)[i + 1] ≤ 0 := (sortedR_iff key0 _).1 hs.1 i hi
  have hst : cmpR key0 ((sortS key0 X)[i]'(by omega)) (sortS key0 X)[i + 1] = 0 → tag1 ((sortS key0 X)[i]'(by omega)) < tag1 (sortS key0 X)[i + 1] := fun hc => by
    have hs2 := hs.2
    have e : sortS key0 X = (sortS key0 X).take i ++ (sortS key0 X)[i]'(by omega) :: (sortS key0 X)[i + 1] :: (sortS key0 X).drop (i + 2) := by
      rw [← List.drop_eq_getElem_cons hi, ← List.drop_eq_getElem_cons (show i < (sortS key0 X).length by omega), List.take_append_drop]
    rw [e] at hs2
    exact OrdPure.Stable.order (cmpR_pre key0) h.up hs2 hc
  obtain ⟨a, p, -, -, e1⟩ := hm i (by omega)
  obtain ⟨b, q, -, -, e2⟩ := hm (i + 1) hi
  rw [e1, e2] at hle hst ⊢
  refine cmp_stab01 a p b q hle fun hc => ?_
  have := hst hc
  simp only [tag1, stabRow, List.getElem?_cons_succ, List.getElem?_cons_zero] at this
  omega
theorem stab_fits {a i : Nat} (ha : a < 4) (hi : i < 60) : mayR (stabRow a i) = 0 ∧ FitR 5000 (stabRow a i) := by
  refine ⟨rfl, fun v hv => ?_⟩
  simp only [stabRow, List.mem_cons, List.not_mem_nil, or_false] at hv
  rcases hv with rfl | rfl
  · exact ⟨⟨by show (0 : Int) ≤ 2; decide, by show (2 : Int) ≤ 255; decide, by simp only; omega, by simp only; omega⟩, by simp⟩
  · exact ⟨⟨by show (0 : Int) ≤ 2; decide, by show (2 : Int) ≤ 255; decide, by simp only; omega, by simp only; omega⟩, by simp⟩
theorem StabL.great {X : List (List V)} (h : StabL X) : 0 ≤ greatR X ∧ greatR X ≤ 24 := by
  have key : ∀ l : List (List V), (∀ r ∈ l, rowCost r = 24) → 0 ≤ greatR l ∧ greatR l ≤ 24 := fun l => by
    refine snocI (P := fun l => (∀ r ∈ l, rowCost r = 24) → 0 ≤ greatR l ∧ greatR l ≤ 24) (fun _ => by decide) (fun t r ih hl => ?_) l
    have h1 := ih fun x hx => hl x (List.mem_append.2 (.inl hx))
    have h2 := hl r (List.mem_append.2 (.inr (List.mem_singleton.2 rfl)))
    rw [greatR_snoc]
    omega
  refine key X fun r hr => ?_
  obtain ⟨a, i, -, -, rfl⟩ := h.mem hr
  rfl
theorem enc_short {n : Nat} (h : n < 248) : (enc n).length = 1 := by
  unfold enc
  rw [if_pos h]
  rfl
theorem stab_val {n : Nat} (h : n < 60) : (encV ⟨2, (n : Int), []⟩).length = 2 := by
  have hr : rightV ⟨2, (n : Int), []⟩ = true := (rightV_iff _).2 (.inr (.inr (.inl ⟨rfl, rfl⟩)))
  have hz : zig (n : Int) < 248 := by
    have := zig_pos (n : Int) (by omega)
    omega
  unfold encV
  rw [if_pos hr, if_pos (.inr rfl), List.length_cons]
  simp only
  rw [enc_short hz]
theorem stab_bytes {a i : Nat} (ha : a < 4) (hi : i < 60) : (rowB (stabRow a i)).length = 5 := by
  have h1 := stab_val (show a < 60 by omega)
  have h2 := stab_val hi
  have h3 := enc_short (show 2 < 248 by decide)
  unfold rowB stabRow
  simp only [List.length_append, List.flatMap_cons, List.flatMap_nil, List.length_cons, List.length_nil, h1, h2, Nat.zero_add, List.append_nil]
  rw [show (1 + 1 : Nat) = 2 from rfl, h3]
theorem StabL.bytes {X : List (List V)} (h : StabL X) (hl : X.length ≤ 60) : (rowsB X).length ≤ 300 := by
  have key : ∀ l : List (List V), (∀ r ∈ l, (rowB r).length = 5) → (rowsB l).length = 5 * l.length := fun l => by
    refine snocI (P := fun l => (∀ r ∈ l, (rowB r).length = 5) → (rowsB l).length = 5 * l.length) (fun _ => rfl) (fun t r ih hl => ?_) l
    have h1 := ih fun x hx => hl x (List.mem_append.2 (.inl hx))
    have h2 := hl r (List.mem_append.2 (.inr (List.mem_singleton.2 rfl)))
    rw [rowsB_snoc, List.length_append, List.length_append, List.length_singleton, h1, h2]
    omega
  have := key X fun r hr => by
    obtain ⟨a, i, ha, hi, rfl⟩ := h.mem hr
    exact stab_bytes ha (by omega)
  omega
theorem sort_length (ks : List Ky) (X : List (List V)) : (sortS ks X).length = X.length := (sortS_is ks X).length (cmpR_pre ks)
end Go.Proofs.YtaoegcakefodaaaGreat

namespace Go.Proofs.YtaoegcakefodaaaGreat
open Go.RowKit Go.BigFrame
set_option maxRecDepth 100000 in
set_option maxHeartbeats 4000000 in
theorem sorterStable_walk (u : Value) (l : List UInt8) (fan more : Int) (w : World) (hu : Rd w u l) (hfan : 0 ≤ fan ∧ fan ≤ 255) (hmore : 0 ≤ more ∧ more ≤ 255) :
    Calls Tryz.prog 6 #[u, .int .u8 fan, .int .u8 more] w fun e w' => e = .returned (.bool true) ∧ Below w.heap.size w w' := by
  obtain ⟨i1, hi1, hy0, hy1, hy2⟩ := info_parts Tryz.info_row
  obtain ⟨hf0, hf1⟩ := hfan
  obtain ⟨hm0, hm1⟩ := hmore
  obtain ⟨F, hF⟩ : ∃ F : Int, F = fan % 15 + 2 := ⟨_, rfl⟩
  have hF2 : 2 ≤ F := by omega
  have hF16 : F ≤ 16 := by omega
  obtain ⟨m, hmm⟩ : ∃ m : Int, m = more % 201 := ⟨_, rfl⟩
  have hm2 : 0 ≤ m := by omega
  have hm3 : m ≤ 200 := by omega
  have HFF := Lib.hid hF
  have HMM := Lib.hid hmm
  obtain ⟨ao, cap, rfl, h1, h2, hc⟩ := RdV.cellsAt hu
  rw [List.length_map] at h1 ⊢
  unfold maxLen at h2
  have HC := Lib.hid hc
  obtain ⟨N, hN⟩ : ∃ N, l.length = N := ⟨_, rfl⟩
  have HN := Lib.hid hN
  rw [hN] at h1 ⊢
  clear hu hc hF hmm hN
  go_enter Tryz.func6, Tryz.ntmps6
  go_wp2_with fail
  refine (shown18_any _).mono ?_
  rintro e w1 ⟨rfl, x1⟩
  have X1 := Lib.hid x1
  clear x1
  go_upto_block 0 with fail
  go_cut [8, 9, 10] from 21 to 38 (fun rv _ _ W => ∃ (oh : List Value) (X : List (List V)), X.length ≤ 60 ∧ StabL X ∧ W.ownsRow w1.heap.size 58 1 rv oh.length oh ∧ OwnRows w1.heap.size W oh X ∧ Ext w1 W)
  case first =>
    go_wp2_with fail
    go_loopw [8, 9, 10, 21] (fun rv _ _ iv wr => ∃ (j : Nat) (oh : List Value) (X : List (List V)), j ≤ N ∧ j ≤ 60 ∧ iv = .int .i64 j ∧ X.length = j ∧ StabL X ∧ wr.ownsRow w1.heap.size 58 1 rv oh.length oh ∧ OwnRows w1.heap.size wr oh X ∧ Ext w1 wr) (fun _ _ _ iv _ => N - (intOf iv).toNat)
    case atStart => exact ⟨0, [], [], Nat.zero_le _, Nat.zero_le _, rfl, rfl, StabL.nil, owns_nil _ _ _ _, OwnRows.nil _ _, Ext.keeps.refl _⟩
    case round =>
      obtain ⟨j, oh, X, hj, hj60, rfl, hXl, hst, ho, hh, hx⟩ := hrel
      have HST := Lib.hid hst
      have HO := Lib.hid ho
      have HH := Lib.hid hh
      have HX := Lib.hid hx
      have HXL := Lib.hid hXl
      have hol : oh.length = j := by rw [← hXl]; exact hh.1
      have HOL := Lib.hid hol
      obtain ⟨ra, rc, rfl, -, -⟩ := own_shapeP ho
      clear hst ho hh hx hXl hol
      by_cases hlt : j < N
      · have hjl : j < l.length := by have := HN.out; omega
        obtain ⟨x, rfl, c0⟩ := HC.out j (bv l[j]) (by rw [List.getElem?_map, List.getElem?_eq_getElem hjl]; rfl)
        unfold bv at c0
        have hlt256 := l[j].toNat_lt
        generalize l[j].toNat = c at c0 hlt256
        have x0 := ((Ext.trans X1.out HX.out).cell (lt_of_cell c0)).trans c0
        clear c0
        by_cases h60 : 60 ≤ j
        · have d1 : decide ((j : Int) ≥ 60) = true := decide_eq_true (by omega)
          go_wp2_with fail
          go_meet
          exact ⟨oh, X, by have := HXL.out; omega, HST.out, HO.out, HH.out, HX.out⟩
        · have d1 : decide ((j : Int) ≥ 60) = false := decide_eq_false (by omega)
          obtain ⟨a4, ha4, ha4'⟩ : ∃ a : Nat, a < 4 ∧ ((c : Int) % 4) = (a : Int) := ⟨c % 4, Nat.mod_lt _ (by decide), by omega⟩
          have HA4 := Lib.hid ha4'
          have hj10 : oh.length ≤ 10000000 := by have := HOL.out; omega
          have HXR := Lib.hid (ext_new wr (.cells #[.int .u8 2, .int .i64 (c % 4), .string ⟨#[]⟩, .int .u8 2, .int .i64 j, .string ⟨#[]⟩] 56))
          have HROW := Lib.hid (show (wr.alloc (.cells #[.int .u8 2, .int .i64 (c % 4), .string ⟨#[]⟩, .int .u8 2, .int .i64 j, .string ⟨#[]⟩] 56)).ownsRow wr.heap.size 56 3 (.slice (some ⟨wr.heap.size, 0, none⟩) 2 2) 2 ((stabRow a4 j).flatMap V.cells) from by
            have h := lit_own wr (stabRow a4 j) (by simp [stabRow, maxLen])
            rw [ha4']
            exact h)
          have HO4 := Lib.hid (owns_extS HO.out HXR.out)
          have HR4 := Lib.hid (HH.out.ext HXR.out)
          have HSZ := Lib.hid (show w1.heap.size ≤ wr.heap.size from HX.out.size)
          have HSZ4 := Lib.hid (Nat.le_trans HX.out.size HXR.out.size)
          clear ha4'
          go_wp2_with (at_builtin; go_must (refine wpList_append_one rfl (.tmp 28) (.tmp 36) 22 rfl w1.heap.size 58 i1 (.slice none 0 0) 1 24 Tryz.underlying22 hi1 hy0 hy1 hy2 rfl (by decide) (by decide) _ _ _ [.slice (some ⟨wr.heap.size, 0, none⟩) 2 2] rfl HO4.out (by simp; rfl) rfl (by simp [Value.oneCell']) hj10 HSZ4.out ?_); intro v5 w5 h5a h5b h5c h5d; have HO5 := Lib.hid h5a; have HB5 := Lib.hid h5b; have HS5 := Lib.hid h5c; clear h5a h5b h5c h5d)
          go_roundw
          case rel =>
            have hrow := owns_beside HROW.out HS5.out (rows_apart HROW.out HO4.out)
            have hor := HR4.out.beside HO4.out HS5.out
            refine ⟨j + 1, oh ++ [.slice (some ⟨wr.heap.size, 0, none⟩) 2 2], X ++ [stabRow a4 j], by omega, by omega, by go_num, by rw [List.length_append, HXL.out]; rfl, ?_, ?_, hor.append ((OwnRows.one hrow).base_le HSZ.out), (show Below w1.heap.size w1 _ from Ext.trans HX.out HXR.out).trans HB5.out⟩
            · have h := HST.out.snoc ha4
              rwa [HXL.out] at h
            · rw [List.length_append]
              exact HO5.out
          case measure => simp [intOf]; omega
      · go_wp2_with fail
        go_meet
        exact ⟨oh, X, by have := HXL.out; omega, HST.out, HO.out, HH.out, HX.out⟩
  case rest =>
  obtain ⟨oh, X, hx60, hst, ho, hh, hx⟩ := hcut
  have hol : oh.length = X.length := hh.1
  have HST := Lib.hid hst
  have HV := Lib.hid (show RdRV wc u8 X from ⟨oh, RdV.of_owns ho, hh.rd⟩)
  have X2 := Lib.hid (Ext.trans X1.out hx)
  obtain ⟨ra, rc, rfl, hrc1, hrc2⟩ := own_shapeP ho
  unfold maxLen at hrc2
  rw [hol] at HV hrc1 ⊢
  have hFm : 0 ≤ 24 * F + m ∧ 24 * F + m ≤ 1048576 := by omega
  obtain ⟨T, hT⟩ : ∃ T, 24 * F + m = T := ⟨_, rfl⟩
  have HT := Lib.hid hT
  rw [hT] at hFm
  clear hst ho hh hx hT
  go_wp2_with fail
  rw [← HFF.out, ← HMM.out, HT.out]
  refine (purNew_any T wc (by omega)).mono ?_
  rintro e w3 hN
  unfold PurNewed at hN
  rcases hN with ⟨_, _, q, rfl, hq3, hg3, hx3⟩ | ⟨h, _⟩
  rotate_left
  · omega
  have HQ3 := Lib.hid hq3
  have HX3 := Lib.hid hx3
  have HG3 := Lib.hid hg3
  clear hq3 hx3 hg3
  go_wp2_with fail
  refine (pNew_any 200 (by decide)).mono ?_
  rintro e w4 hN
  unfold PNewed at hN
  rcases hN with ⟨_, _, p, O1, rfl, hp4, ho4, hx4⟩ | ⟨h, _⟩
  rotate_left
  · exact absurd (by decide) h
  have HP4 := Lib.hid (show PSto O1 w4 p (List.replicate 200 none) from hp4)
  have HO4 := Lib.hid ho4
  have HX4 := Lib.hid hx4
  clear hp4 ho4 hx4
  have HOq := Lib.hid (show ¬ O1 q from fun h => by have := HO4.out q h; have := HQ3.out.lt; omega)
  have HXK := Lib.hid (ext_new w4 (.cells #[.int .i64 0, .bool false] 60))
  have HK5 := Lib.hid (show RdKs (w4.alloc (.cells #[.int .i64 0, .bool false] 60)) (.slice (some ⟨w4.heap.size, 0, none⟩) 1 1) key0 from RdKs.lit w4 key0 60 (by simp [maxLen, key0]))
  have HS5 := Lib.hid (show (w4.alloc (.cells #[.int .i64 0, .bool false] 60)).heap.size = w4.heap.size + 1 from by simp only [World.alloc, Array.size_push])
  go_wp2_with fail
  generalize w4.alloc (.cells #[.int .i64 0, .bool false] 60) = W5 at HXK HK5 HS5 ⊢
  have HYB := Lib.hid (show ∀ i, O1 i ∨ i = q → wc.heap.size ≤ i ∧ i < w4.heap.size from fun i h => by
    have s1 := HX3.out.size
    have s2 := HX4.out.size
    have s3 := HG3.out
    have s4 := HQ3.out.lt
    rcases h with h | h
    · have := HO4.out i h
      have := HP4.out.lt i h
      omega
    · omega)
  have HX45 := Lib.hid (show Ext wc W5 from Ext.trans HX3.out (Ext.trans HX4.out HXK.out))
  have HBEL := Lib.hid (fun W (hW : OnlyS (fun i => O1 i ∨ i = q) W5 W) => show Ext wc W from (show Below wc.heap.size wc W5 from HX45.out).trans (hW.below HX45.out.size (fun i h => (HYB.out i h).1)))
  have HFIT := Lib.hid (show ∀ r ∈ X, mayR r = 0 ∧ FitR 5000 r from fun r hr => by
    obtain ⟨a, i, ha, hi, rfl⟩ := HST.out.mem hr
    exact stab_fits ha (by omega))
  refine (pSort18_any (fun i => O1 i ∨ i = q) O1 p q (List.replicate 200 none) ⟨T, 0, 0⟩ _ _ X key0 F W5 (HP4.out.mono HXK.out) ⟨by rw [List.length_replicate]; decide, fun p hp => by simp at hp⟩ ((HQ3.out.ext HX4.out).ext HXK.out) HOq.out (fun i h => h) (fun W hW => HV.out.mono (HBEL.out W hW)) (fun W hW => HK5.out.over hW (fun h => by have := (HYB.out _ h).2; omega)) (by decide) (by omega) HFIT.out (by omega)).mono ?_
  rintro e w6 ⟨out, E, O', pu', rfl, hp6, hq6, hm6, hn6, ho6, hO6, hq6', -, h2, h3, -⟩
  have h2' := h2 (by omega) (by omega)
  have hgr := HST.out.great
  have hby := HST.out.bytes hx60
  have hE : E = 0 := by
    have hFG : F * greatR X ≤ F * 24 := Int.mul_le_mul_of_nonneg_left hgr.2 (by omega)
    have hT := HT.out
    have e1 := h2'.2.2.2.1 (show RoomM18 (T - 0) X F by
      unfold RoomM18
      omega)
    have e2 := h2'.2.2.2.2 (show RoomD18 _ (T - 0) X from by
      rw [Int.sub_zero]
      have hr0 : (runsR X T).2 = 0 := runs_room (by omega)
      have hrn : (runsR X T).1 ≤ 0 + X.length := (runsG_le T X 0 0).1
      have hnd : needS ((rowsB X).length : Int) ≤ 6 := by unfold needS; split <;> omega
      refine ⟨fun _ => ?_, fun h => absurd hr0 h⟩
      rw [List.length_replicate, used_none17]
      omega)
    omega
  subst hE
  have HOUT := Lib.hid (h3 rfl w6 (OnlyS.refl _ _))
  have HB6 := Lib.hid (show Ext wc w6 from HBEL.out w6 ho6)
  obtain ⟨ua, uc, rfl, -, -⟩ := HOUT.out.rd.shape
  rw [sort_length] at HOUT ⊢
  have HXK6 := Lib.hid (ext_new w6 (.cells #[.int .i64 0, .bool false, .int .i64 1, .bool false] 60))
  have HK7 := Lib.hid (show RdKs (w6.alloc (.cells #[.int .i64 0, .bool false, .int .i64 1, .bool false] 60)) (.slice (some ⟨w6.heap.size, 0, none⟩) 2 2) key01 from RdKs.lit w6 key01 60 (by simp [maxLen, key01]))
  clear h2 h2' h3 hp6 hq6 hm6 hn6 ho6 hO6 hq6' hgr hby
  have HFL := Lib.hid (show FitL (sortS key0 X) from FitL.sort ⟨fun r hr => (HFIT.out r hr).2, fun r hr => by
    obtain ⟨a, i, -, -, rfl⟩ := HST.out.mem hr
    show 2 ≤ 1000000
    decide⟩ key0)
  have HLL := Lib.hid (show (sortS key0 X).length ≤ 100000 from by rw [sort_length]; omega)
  go_wp2_with fail
  generalize w6.alloc (.cells #[.int .i64 0, .bool false, .int .i64 1, .bool false] 60) = W7 at HXK6 HK7 ⊢
  refine (pSorted15_any _ _ (sortS key0 X) key01 W7 (HOUT.out.mono HXK6.out) HK7.out HFL.out HLL.out).mono ?_
  rw [HST.out.sorted]
  rintro e w8 ⟨rfl, x8⟩
  have HFIN := Lib.hid (show Below w.heap.size w w8 from Ext.trans X2.out (Ext.trans HB6.out (Ext.trans HXK6.out x8)))
  clear x8
  go_wp2_with fail
  go_ret
  exact ⟨rfl, HFIN.out⟩
end Go.Proofs.YtaoegcakefodaaaGreat

