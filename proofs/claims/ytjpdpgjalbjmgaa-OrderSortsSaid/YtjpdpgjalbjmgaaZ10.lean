/-
  Texts of this proof, merged: OpenRows, OrderCompares, OrdKeep, ZerosOnto, OrderKeeps.
-/
import Derived.Lib.AppendZerosOnto
import Derived.Test.YtjpdpgjalbjmgaaZ9
import Derived.Test.YtjpdpgjalbjmgaaZ2
import Derived.Test.YtjpdpgjalbjmgaaZ4
/-
  What an argument that came in as a row of rows of values of the document is to a walk.
-/
namespace Go.Proofs.Ytjpdpgjalbjmgaa
open Go.ChangeShapes Go.WideShapes Go.ChangeAt Go.RowKit Go.Joins Go.Deep

section
variable {H : Type} {enc : TypeId × Value → H} {P : Program} {w : World} {base : Nat} {held : Bool}

theorem read_rows {t r e : TypeId} {f0 f1 f2 : Field} {v : Value} {d : DataW H} {ps : List MemPlace} (ht : P.underlying t = some (.slice r)) (hr : P.underlying r = some (.slice e)) (hs : P.underlying e = some (.struct #[f0, f1, f2])) (h0 : P.underlying f0.type = some (.int .u8)) (h1 : P.underlying f1.type = some (.int .i64)) (h2 : P.underlying f2.type = some .string)
    (hone : oneCellFields P #[f0, f1, f2] = true) (hC : P.cellsOf e = 3) (hR : P.cellsOf r = 1) (hv : v.cells.toList = [v]) (h : DataW.Trod enc P w base (fun _ => true) held t v d ps) :
    ∃ rs : List (List V), RdRows w v rs ∧ ∀ vs ∈ rs, ∀ x ∈ vs, x.fits ∧ x.s.length ≤ maxLen := by
  obtain ⟨fuel, hf⟩ := h
  rw [hv] at hf
  rcases open_slice1 ht hR hf with ⟨hcs, _⟩ | ⟨a, len, cap, m, n, W, D, Pl, hcs, _, hl, hm, hmm, _, hi⟩
  · obtain rfl : v = .slice none 0 0 := by simpa using hcs
    exact ⟨[], RdRows.nil w, by simp⟩
  · obtain rfl : v = .slice (some a) len cap := by simpa using hcs
    have hmc : m = cap := by simpa using hmm
    have key : ∀ i, i < len → ∃ vs : List V, (∀ x ∈ vs, x.fits ∧ x.s.length ≤ maxLen) ∧ RdVals w (W i) vs ∧ w.cell? (a.add i) = some (W i) := fun i hi' => by
      obtain ⟨hc, ht'⟩ := hi i (by omega)
      obtain ⟨a', l', c', e'⟩ := slice_form hr ht'
      have e'' : W i = .slice a' l' c' := by simpa using e'
      obtain ⟨vs, hvs, hfit⟩ := read_vals (v := W i) (d := D i) (ps := Pl i) hr hs h0 h1 h2 hone hC (by rw [e'']; rfl) ⟨n, by rw [e'']; rw [e''] at ht'; exact ht'⟩
      exact ⟨vs, hfit, hvs, hc⟩
    have hall : ∃ rs : List (List V), rs.length = len ∧ ∀ i, (hi : i < rs.length) → (∀ x ∈ rs[i], x.fits ∧ x.s.length ≤ maxLen) ∧ RdVals w (W i) rs[i] ∧ w.cell? (a.add i) = some (W i) := by
      refine ⟨(List.range len).map fun i => if h : i < len then (key i h).choose else [], by simp, fun i hi' => ?_⟩
      have hil : i < len := by simpa using hi'
      rw [List.getElem_map, List.getElem_range, dif_pos hil]
      exact (key i hil).choose_spec
    obtain ⟨rs, hlen, hrs⟩ := hall
    refine ⟨rs, ⟨some a, cap, by rw [hlen], by omega, hm, fun j hj => ⟨a, W j, rfl, (hrs j hj).2.1, (hrs j hj).2.2⟩⟩, fun x hx => ?_⟩
    obtain ⟨i, hi', rfl⟩ := List.mem_iff_getElem.1 hx
    exact (hrs i hi').1

end
end Go.Proofs.Ytjpdpgjalbjmgaa

/-
  The walk of the law OrderCompares.
-/
namespace Go.Proofs.Ytjpdpgjalbjmgaa
open Go.RowKit Go.BigFrame

/-- How three rows stand: what the law asks. -/
theorem three_ways (ks : List Ky) (a b c : List V) : (cmpR ks a b = 1) ∨ (cmpR ks a b = -1 ∧ cmpR ks b c = 1) ∨ (cmpR ks a b = 0 ∧ cmpR ks b c = 1) ∨
    (cmpR ks a b = -1 ∧ cmpR ks b c = -1 ∧ cmpR ks a c = -1) ∨ (cmpR ks a b = -1 ∧ cmpR ks b c = 0 ∧ cmpR ks a c = -1) ∨ (cmpR ks a b = 0 ∧ cmpR ks b c = -1 ∧ cmpR ks a c = -1) ∨ (cmpR ks a b = 0 ∧ cmpR ks b c = 0 ∧ cmpR ks a c = 0) := by
  have hp := cmpR_pre ks
  have h3 := cmpR_three ks a c
  have t1 := hp.trans a b c
  have t2 := hp.trans b c a
  have t3 := hp.trans c a b
  have n1 := hp.neg a b
  have n2 := hp.neg b c
  have n3 := hp.neg a c
  rcases cmpR_three ks a b with h1 | h1 | h1
  · rcases cmpR_three ks b c with h2 | h2 | h2
    · have := t1 (by omega) (by omega)
      rcases h3 with h3 | h3 | h3
      · exact .inr (.inr (.inr (.inl ⟨h1, h2, h3⟩)))
      · have := t2 (by omega) (by omega)
        omega
      · omega
    · have := t1 (by omega) (by omega)
      rcases h3 with h3 | h3 | h3
      · exact .inr (.inr (.inr (.inr (.inl ⟨h1, h2, h3⟩))))
      · have := t2 (by omega) (by omega)
        omega
      · omega
    · exact .inr (.inl ⟨h1, h2⟩)
  · rcases cmpR_three ks b c with h2 | h2 | h2
    · have := t1 (by omega) (by omega)
      rcases h3 with h3 | h3 | h3
      · exact .inr (.inr (.inr (.inr (.inr (.inl ⟨h1, h2, h3⟩)))))
      · have := t3 (by omega) (by omega)
        omega
      · omega
    · exact .inr (.inr (.inr (.inr (.inr (.inr ⟨h1, h2, hp.alike h1 h2⟩)))))
    · exact .inr (.inr (.inl ⟨h1, h2⟩))
  · exact .inl h1

set_option maxRecDepth 100000 in
set_option maxHeartbeats 4000000 in
theorem orderCompares_walk (u : Value) (a : List V) (v : Value) (b : List V) (t : Value) (c : List V) (x : Value) (ks : List Ky) (w : World) (hu : RdVals w u a) (hfa : ∀ x ∈ a, x.fits ∧ x.s.length ≤ maxLen) (hv : RdVals w v b) (hfb : ∀ x ∈ b, x.fits ∧ x.s.length ≤ maxLen) (ht : RdVals w t c) (hfc : ∀ x ∈ c, x.fits ∧ x.s.length ≤ maxLen) (hx : RdKs w x ks) (_hk : ∀ k ∈ ks, k.fits) :
    Calls Try.prog 5 #[u, v, t, x] w fun e w' => e = .returned (.bool true) ∧ Below w.heap.size w w' := by
  obtain ⟨a1, a3, rfl, -, -⟩ := hu.shape
  obtain ⟨b1, b3, rfl, -, -⟩ := hv.shape
  obtain ⟨c1, c3, rfl, -, -⟩ := ht.shape
  have HRD := Lib.hid (fun W (h : Ext w W) => (HdRows.one (hu.mono h)).append ((HdRows.one (hv.mono h)).append (HdRows.one (ht.mono h))))
  have HFIT := Lib.hid (show ∀ r ∈ [a, b, c], ∀ v ∈ r, v.fits ∧ v.s.length ≤ maxLen from fun r hr => by
    simp only [List.mem_cons, List.not_mem_nil, or_false] at hr
    rcases hr with rfl | rfl | rfl
    · exact hfa
    · exact hfb
    · exact hfc)
  have HA := Lib.hid hu
  have HB := Lib.hid hv
  have HC := Lib.hid ht
  have HK := Lib.hid hx
  generalize a.length = A at HA HRD ⊢
  generalize b.length = B at HB HRD ⊢
  generalize c.length = C at HC HRD ⊢
  clear hu hv ht hx hfa hfb hfc
  go_enter Try.func5, Try.ntmps5
  go_wp2_with fail
  refine (shown15_any w).mono ?_
  rintro e w1 ⟨rfl, x1⟩
  have HX1 := Lib.hid x1
  have HL := Lib.hid (lit_rows w1 _ _ (HRD.out w1 x1) (by simp [maxLen]))
  replace HL := Lib.hid (show RdRV (w1.alloc (.cells #[.slice a1 A a3, .slice b1 B b3, .slice c1 C c3] 33)) (.slice (some ⟨w1.heap.size, 0, none⟩) 3 3) [a, b, c] from HL.out)
  have HX2 := Lib.hid (Ext.trans x1 (ext_new w1 (.cells #[.slice a1 A a3, .slice b1 B b3, .slice c1 C c3] 33)))
  clear x1 HRD HX1
  go_wp2_with fail
  generalize w1.alloc (.cells #[.slice a1 A a3, .slice b1 B b3, .slice c1 C c3] 33) = W2 at HL HX2 ⊢
  refine (few15_any _ [a, b, c] W2 HL.out HFIT.out).mono ?_
  rintro e w3 ⟨⟨fv, M, rfl, hfv, hfw⟩, x3⟩
  obtain ⟨fa, fc, rfl, -, -⟩ := hfv.shape
  have HX3 := Lib.hid (Ext.trans HX2.out x3)
  have HFW := Lib.hid hfw
  obtain ⟨F, hF⟩ : ∃ F, ([a, b, c].take M).length = F := ⟨_, rfl⟩
  have HFL := Lib.hid hF
  rw [hF]
  clear hfv hfw x3 hF HL HX2
  by_cases hF3 : F < 3
  · have d1 : decide (F < 3) = true := decide_eq_true hF3
    have d1' : decide ((F : Int) < 3) = true := decide_eq_true (by omega)
    go_wp2_with fail
    go_ret
    exact ⟨rfl, HX3.out⟩
  · have d1 : decide (F < 3) = false := decide_eq_false hF3
    have d1' : decide ((F : Int) < 3) = false := decide_eq_false (by omega)
    have hall : [a, b, c].take M = [a, b, c] := List.take_of_length_le (by have h := HFL.out; rw [List.length_take] at h; simp at h ⊢; omega)
    have HFA := Lib.hid (show FitR 5000 a from ((HFW.out.2 a (by rw [hall]; simp)).2).le (by decide))
    have HFB := Lib.hid (show FitR 5000 b from ((HFW.out.2 b (by rw [hall]; simp)).2).le (by decide))
    have HFC := Lib.hid (show FitR 5000 c from ((HFW.out.2 c (by rw [hall]; simp)).2).le (by decide))
    clear hall HFIT
    go_wp2_with fail
    refine (some15_any x ks w3 (HK.out.mono HX3.out)).mono ?_
    rintro e w4 ⟨⟨kv, rfl, hkv⟩, rfl⟩
    obtain ⟨ka, kc, rfl, -, -⟩ := hkv.shape
    have HKV := Lib.hid hkv
    generalize ks.take 10 = K at HKV
    generalize K.length = KL at HKV ⊢
    clear hkv
    have HCAB := Lib.hid (fun W (h : Ext w4 W) => pCompare15_any _ _ _ a b K W (HA.out.mono (Ext.trans HX3.out h)) (HB.out.mono (Ext.trans HX3.out h)) (HKV.out.mono h) HFA.out HFB.out)
    have HCBC := Lib.hid (fun W (h : Ext w4 W) => pCompare15_any _ _ _ b c K W (HB.out.mono (Ext.trans HX3.out h)) (HC.out.mono (Ext.trans HX3.out h)) (HKV.out.mono h) HFB.out HFC.out)
    have HCAC := Lib.hid (fun W (h : Ext w4 W) => pCompare15_any _ _ _ a c K W (HA.out.mono (Ext.trans HX3.out h)) (HC.out.mono (Ext.trans HX3.out h)) (HKV.out.mono h) HFA.out HFC.out)
    have HCBA := Lib.hid (fun W (h : Ext w4 W) => pCompare15_any _ _ _ b a K W (HB.out.mono (Ext.trans HX3.out h)) (HA.out.mono (Ext.trans HX3.out h)) (HKV.out.mono h) HFB.out HFA.out)
    have HCAA := Lib.hid (fun W (h : Ext w4 W) => pCompare15_any _ _ _ a a K W (HA.out.mono (Ext.trans HX3.out h)) (HA.out.mono (Ext.trans HX3.out h)) (HKV.out.mono h) HFA.out HFA.out)
    have HRAB := Lib.hid (fun W (h : Ext w4 W) => refCompare15_any _ _ _ a b K 5000 W (HA.out.mono (Ext.trans HX3.out h)) (HB.out.mono (Ext.trans HX3.out h)) (HKV.out.mono h) HFA.out HFB.out)
    have hways := three_ways K a b c
    rw [(cmpR_pre K).neg a b] at HCBA
    rw [(cmpR_pre K).refl] at HCAA
    generalize cmpR K a b = X at HCAB HRAB HCBA hways
    generalize cmpR K b c = Y at HCBC hways
    generalize cmpR K a c = Z at HCAC hways
    have HWS := Lib.hid hways
    clear hways HA HB HC HKV HFA HFB HFC
    go_wp2_with fail
    refine (HCAB.out _ (Ext.keeps.refl _)).mono ?_
    rintro e w5 ⟨rfl, x5⟩
    have HX5 := Lib.hid x5
    clear x5
    go_wp2_with fail
    refine (HCBC.out _ HX5.out).mono ?_
    rintro e w6 ⟨rfl, x6⟩
    have HX6 := Lib.hid (Ext.trans HX5.out x6)
    clear x6
    go_wp2_with fail
    refine (HCAC.out _ HX6.out).mono ?_
    rintro e w7 ⟨rfl, x7⟩
    have HX7 := Lib.hid (Ext.trans HX6.out x7)
    clear x7 HX5 HX6 HCAB HCBC HCAC
    go_upto_region 6 with fail
    have hways := HWS.out
    clear HWS
    rcases hways with rfl | ⟨rfl, rfl⟩ | ⟨rfl, rfl⟩ | ⟨rfl, rfl, rfl⟩ | ⟨rfl, rfl, rfl⟩ | ⟨rfl, rfl, rfl⟩ | ⟨rfl, rfl, rfl⟩
    all_goals
      go_wp2_with fail
      refine (HRAB.out _ HX7.out).mono ?_
      rintro e w8 ⟨rfl, x8⟩
      have HX8 := Lib.hid (Ext.trans HX7.out x8)
      clear x8
      go_wp2_with fail
      refine (HCBA.out _ HX8.out).mono ?_
      rintro e w9 ⟨rfl, x9⟩
      have HX9 := Lib.hid (Ext.trans HX8.out x9)
      clear x9
      go_wp2_with fail
      refine (HCAA.out _ HX9.out).mono ?_
      rintro e w10 ⟨rfl, x10⟩
      have HX10 := Lib.hid (Ext.trans HX9.out x10)
      clear x10
      go_wp2_with fail
      go_ret
      exact ⟨rfl, Ext.trans HX3.out HX10.out⟩

end Go.Proofs.Ytjpdpgjalbjmgaa

/-
  Rows that bear their number: what sorting makes of them. No program.
-/
namespace Go.Proofs.Ytjpdpgjalbjmgaa

/-- Rows of 21 values, of which the last bears the row's number. -/
def Tagged (X : List (List V)) : Prop := ∀ i, (h : i < X.length) → X[i].length = 21 ∧ X[i][20]? = some ⟨2, (i : Int), []⟩
def tagN (r : List V) : Int := match r[20]? with | some v => v.n | none => 0

theorem Tagged.nil : Tagged [] := fun _ h => absurd h (Nat.not_lt_zero _)
theorem Tagged.snoc {X : List (List V)} (h : Tagged X) {r : List V} (h1 : r.length = 21) (h2 : r[20]? = some ⟨2, (X.length : Int), []⟩) : Tagged (X ++ [r]) := by
  intro i hi
  rw [List.length_append, List.length_singleton] at hi
  by_cases hl : i < X.length
  · have e : (X ++ [r])[i]'(by rw [List.length_append]; omega) = X[i] := List.getElem_append_left hl
    rw [e]
    exact h i hl
  · obtain rfl : i = X.length := by omega
    have e : (X ++ [r])[X.length]'(by simp) = r := by simp
    rw [e]
    exact ⟨h1, h2⟩
theorem Tagged.tag {X : List (List V)} (h : Tagged X) {i : Nat} (hi : i < X.length) : tagN X[i] = i := by
  unfold tagN
  rw [(h i hi).2]
theorem Tagged.up {X : List (List V)} (h : Tagged X) : X.Pairwise fun a b => tagN a < tagN b := by
  rw [List.pairwise_iff_getElem]
  intro i j hi hj hij
  rw [h.tag hi, h.tag hj]
  omega

theorem Tagged.sorted {X : List (List V)} (h : Tagged X) (ks : List Ky) {i : Nat} (hi : i < (sortS ks X).length) :
    ∃ t : Nat, ∃ ht : t < X.length, (sortS ks X)[i] = X[t] ∧ (sortS ks X)[i].length = 21 ∧ (sortS ks X)[i][20]? = some ⟨2, (t : Int), []⟩ ∧ tagN (sortS ks X)[i] = t := by
  have hm : (sortS ks X)[i] ∈ X := ((sortS_is ks X).mem (cmpR_pre ks)).1 (List.getElem_mem hi)
  obtain ⟨t, ht, e⟩ := List.mem_iff_getElem.1 hm
  refine ⟨t, ht, e.symm, ?_, ?_, ?_⟩
  · rw [← e]; exact (h t ht).1
  · rw [← e]; exact (h t ht).2
  · rw [← e]; exact h.tag ht
theorem Tagged.apart {X : List (List V)} (h : Tagged X) (ks : List Ky) : (sortS ks X).Pairwise fun a b => tagN a ≠ tagN b := by
  have hp := OrdPure.Stable.perm (cmpR_pre ks) (sortS_is ks X).2
  refine (hp.pairwise_iff (fun h => Ne.symm h)).1 (h.up.imp fun h => ?_)
  omega
theorem Tagged.stays {X : List (List V)} (h : Tagged X) (ks : List Ky) {i : Nat} (hi : i + 1 < (sortS ks X).length) (hc : cmpR ks ((sortS ks X)[i]'(by omega)) (sortS ks X)[i + 1] = 0) : tagN ((sortS ks X)[i]'(by omega)) < tagN (sortS ks X)[i + 1] := by
  have hs := (sortS_is ks X).2
  have e : sortS ks X = (sortS ks X).take i ++ (sortS ks X)[i]'(by omega) :: (sortS ks X)[i + 1] :: (sortS ks X).drop (i + 2) := by
    rw [← List.drop_eq_getElem_cons hi, ← List.drop_eq_getElem_cons (show i < (sortS ks X).length by omega), List.take_append_drop]
  rw [e] at hs
  exact OrdPure.Stable.order (cmpR_pre ks) h.up hs hc

theorem Tagged.sorted' {X Y : List (List V)} (h : Tagged X) {ks : List Ky} (e : sortS ks X = Y) : ∀ i, (hi : i < Y.length) → ∃ t : Nat, ∃ ht : t < X.length, Y[i] = X[t] ∧ Y[i].length = 21 ∧ Y[i][20]? = some ⟨2, (t : Int), []⟩ ∧ tagN Y[i] = t := by
  subst e
  exact fun i hi => h.sorted ks hi
theorem Tagged.stays' {X Y : List (List V)} (h : Tagged X) {ks : List Ky} (e : sortS ks X = Y) : ∀ i, (hi : i + 1 < Y.length) → cmpR ks (Y[i]'(by omega)) Y[i + 1] = 0 → tagN (Y[i]'(by omega)) < tagN Y[i + 1] := by
  subst e
  exact fun i hi hc => h.stays ks hi hc

/-- What the law makes of a row: its first ones, filled up with nothing, and its number. -/
def keepRow (r : List V) (i : Nat) : List V := r.take (min r.length 8) ++ List.replicate (20 - min r.length 8) V.zero ++ [⟨2, (i : Int), []⟩]
theorem keepRow_len (r : List V) (i : Nat) : (keepRow r i).length = 21 := by
  unfold keepRow
  rw [List.length_append, List.length_append, List.length_take, List.length_replicate, List.length_singleton]
  omega
theorem keepRow_tag (r : List V) (i : Nat) : (keepRow r i)[20]? = some ⟨2, (i : Int), []⟩ := by
  unfold keepRow
  have h : (r.take (min r.length 8) ++ List.replicate (20 - min r.length 8) V.zero).length = 20 := by
    rw [List.length_append, List.length_take, List.length_replicate]
    omega
  rw [List.getElem?_append_right (by omega), h]
  rfl

end Go.Proofs.Ytjpdpgjalbjmgaa

/-
  append(l, make([]T, n)...) where l is a row of the call's own.
-/
namespace Go.Proofs.Ytjpdpgjalbjmgaa
open Go.RowKit Go.BigFrame

theorem run_append_zeros_own {P : Program} (w : World) (base : Nat) (t tn ty e : TypeId) (i : TypeInfo) (z : Value) (size bytes : Nat) (kn : IntKind) (ht : P.underlying t = some (.slice e)) (htn : P.underlying tn = some (.int kn)) (hi : P.info? e = some i) (hz : i.zero = some z)
    (hsize : i.size = size) (hby : i.bytes = bytes) (hzs : z.cells.size = size) (hsz : 0 < size) (hone : ∀ u ∈ z.cells.toList, u.oneCell' = true)
    (v : Value) (n : Nat) (xs : List Value) (hown : w.ownsRow base e size v n xs) (k : Nat) (h0 : 0 < k) (h63 : n + k ≤ maxLen) (hbytes : (n + k) * bytes ≤ 140737488355328) (hbase : base ≤ w.heap.size) :
    ∃ v' w', (Builtin.append_ #[t, tn] ty #[v, .int .i64 (k : Int)]).run P w = .ok v' w' ∧ w'.ownsRow base e size v' (n + k) (xs ++ (Builtin.zeroCells z.cells k).toList) ∧ w.grownBy w' v.ownBlock := by
  subst hsize
  subst hby
  have hsmall : n + k ≤ 9223372036854775807 := by simp only [maxLen] at h63; omega
  have hl : (Builtin.zeroCells z.cells k).toList.length = k * i.size := by rw [Array.length_toList, size_zeroCells, hzs]
  have hlen : (xs ++ (Builtin.zeroCells z.cells k).toList).length = (n + k) * i.size := by rw [List.length_append, hown.1, hl, Nat.add_mul]
  have h1 : ∀ u ∈ (Builtin.zeroCells z.cells k).toList, u.oneCell' = true := fun u hu => by
    unfold Builtin.zeroCells at hu
    simp only [Array.toList_map, List.mem_map] at hu
    obtain ⟨a, -, rfl⟩ := hu
    have hm : a % z.cells.size < z.cells.size := Nat.mod_lt _ (by omega)
    have e1 : z.cells[a % z.cells.size]! = z.cells[a % z.cells.size] := getElem!_pos z.cells _ hm
    rw [e1]
    exact hone _ (by rw [← Array.getElem_toList]; exact List.getElem_mem _)
  have hb2 : k * i.bytes ≤ 140737488355328 := Nat.le_trans (Nat.mul_le_mul_right _ (by omega)) hbytes
  have grown : ∀ (old : Nat) (row : Option Nat),
      (w.drew.alloc (.cells (xs.toArray ++ Builtin.zeroCells z.cells k ++ Builtin.zeroCells z.cells (grownCap w (n + k) old e - (n + k))) e)).ownsRow base e i.size
        (.slice (some ⟨w.heap.size, 0, none⟩) (n + k) (grownCap w (n + k) old e)) (n + k) (xs ++ (Builtin.zeroCells z.cells k).toList) ∧
      w.grownBy (w.drew.alloc (.cells (xs.toArray ++ Builtin.zeroCells z.cells k ++ Builtin.zeroCells z.cells (grownCap w (n + k) old e - (n + k))) e)) row := by
    intro old row
    have hge := grownCap_ge w (n + k) old e
    have hcm : grownCap w (n + k) old e ≤ maxLen := grownCap_le_maxLen w (n + k) old e h63
    refine ⟨⟨hlen, .inr ⟨w.heap.size, _, _, rfl, hbase, heap_alloc_new w.drew _, hge, hcm, ?_, ?_⟩⟩, ⟨rfl, rfl, rfl, by simp, fun j hj _ => heap_alloc_old w.drew _ hj⟩⟩
    · simp only [Array.size_append, List.size_toArray, size_zeroCells, hzs, hown.1, ← Nat.add_mul]
      congr 1
      omega
    · simp only [Array.toList_append]
      rw [← hlen]
      exact List.take_left
  have hw : IntKind.i64.wrap (k : Int) = k := by rw [IntKind.wrap_i64]; omega
  have hneg : ¬ ((k : Int) < 0) := by omega
  have hk0 : k ≠ 0 := by omega
  have hns : ¬ (k * i.size = 0) := Nat.mul_ne_zero hk0 (by omega)
  have h48i : ¬ (281474976710656 < (k : Int) * (i.bytes : Int)) := by
    rw [← Int.natCast_mul]
    omega
  rcases hown.2 with ⟨rfl, rfl⟩ | ⟨g, cap, cur, rfl, hbg, hg, hnc, hcm, hcs, htake⟩
  · have hx : xs = [] := List.eq_nil_of_length_eq_zero (by simpa using hown.1)
    subst hx
    have hr := Lib.run_append_nil_zeros (P := P) w t tn ty e i z .i64 kn ht htn hi hz k h0 hsz (by omega) (by omega)
    have hgr := grown 0 (Value.ownBlock (.slice none 0 0))
    simp only [Nat.zero_add, List.nil_append, Array.empty_append] at hgr ⊢
    exact ⟨_, _, hr, hgr.1, hgr.2⟩
  · by_cases hroom : n + k ≤ cap
    · have hfit : n * i.size + (Builtin.zeroCells z.cells k).toList.length ≤ cur.size := by rw [hl, hcs, ← Nat.add_mul]; exact Nat.mul_le_mul_right _ hroom
      have hst := run_storeCells_at P g (n * i.size) e (Builtin.zeroCells z.cells k).toList 0 cur w hg (by simpa using hfit) h1
      simp only [Nat.add_zero] at hst
      have hr : (Builtin.append_ #[t, tn] ty #[.slice (some ⟨g, 0, none⟩) n cap, .int .i64 (k : Int)]).run P w =
          .ok (.slice (some ⟨g, 0, none⟩) (n + k) cap) (w.setRow g (cur.toList.take (n * i.size) ++ (Builtin.zeroCells z.cells k).toList ++ cur.toList.drop (n * i.size + (Builtin.zeroCells z.cells k).toList.length)).toArray) := by
        simp [Builtin.append_, run_underlying ht, run_underlying htn, sizeOf, typeInfo, zeroValue, hi, hz, asInt, asIntOf, hw, hneg, hns, h48i, hroom, Addr.add_lit, hst]
      refine ⟨_, _, hr, ⟨hlen, .inr ⟨g, cap, _, rfl, hbg, setRow_heap w g cur _ e _ hg, hroom, hcm, ?_, ?_⟩⟩, ⟨rfl, rfl, rfl, by simp, fun j _ hj => setRow_other w g j _ (fun e => hj (by simp [Value.ownBlock, e]))⟩⟩
      · simp only [List.size_toArray, List.length_append, List.length_take, List.length_drop, Array.length_toList] at hfit ⊢
        omega
      · rw [htake, ← hlen]
        exact List.take_left
    · have holds : ∀ j u, xs[j]? = some u → w.cell? ((⟨g, 0, none⟩ : Addr).add j) = some u := hown.cells (g := g) rfl
      have hf := run_firstCells_some (P := P) w.drew i.size n ⟨g, 0, none⟩ n cap xs hown.1 holds
      have hr := Lib.run_append_grow_zeros (P := P) w t tn ty e i z .i64 kn ht htn hi hz (some ⟨g, 0, none⟩) n cap xs hf k h0 hsz (by omega) (by omega) (by omega) (growslice_fits (by omega) hbytes)
      have hgr := grown cap (Value.ownBlock (.slice (some ⟨g, 0, none⟩) n cap))
      exact ⟨_, _, hr, hgr.1, hgr.2⟩

theorem zeros_vals (k : Nat) : (Builtin.zeroCells (Value.cells (.agg #[.int .u8 0, .int .i64 0, .string ByteArray.empty])) k).toList = (List.replicate k V.zero).flatMap V.cells := by
  apply List.ext_getElem?
  intro j
  by_cases hj : j < k * 3
  · obtain ⟨q, m, hq, hm⟩ : ∃ q m, j = q * 3 + m ∧ m < 3 := ⟨j / 3, j % 3, by omega, by omega⟩
    subst hq
    have hql : q < (List.replicate k V.zero).length := by rw [List.length_replicate]; omega
    rw [valCells _ q hql m hm, List.getElem_replicate]
    have hjj : q * 3 + m < k * 3 := hj
    have hmod : (q * 3 + m) % 3 = m := by omega
    unfold Builtin.zeroCells
    rw [Array.getElem?_toList, Array.getElem?_map]
    have hsz : (Value.cells (.agg #[.int .u8 0, .int .i64 0, .string ByteArray.empty])).size = 3 := rfl
    rw [hsz, Array.getElem?_range, if_pos hjj]
    simp only [Option.map_some, hmod]
    match m, hm with
    | 0, _ => rfl
    | 1, _ => rfl
    | 2, _ => rfl
  · rw [List.getElem?_eq_none (by rw [Array.length_toList, size_zeroCells]; show k * 3 ≤ j; omega), List.getElem?_eq_none (by rw [valCells_length, List.length_replicate]; omega)]

/-- append(l, make([]api.Value, k)...) -/
theorem wpList_append_zeros {ops : Array Oper} {rest : List Oper} {o : Oper} {a : Act} {Q : Exit → Act → World → Prop} {w : World} (hgd : o.guard = none) (s x : Operand) (t tn : TypeId) (kn : IntKind)
    (ho : o.op = .call { callee := .builtin .append, args := #[s, x], argTypes := #[t, tn] }) (ht : Try.prog.underlying t = some (.slice 35)) (htn : Try.prog.underlying tn = some (.int kn))
    (base : Nat) (v : Value) (ps : List V) (k : Nat) (hs : a.eval s = v) (hown : w.ownsRow base 35 3 v ps.length (ps.flatMap V.cells))
    (hx : a.eval x = .int .i64 (k : Int)) (h0 : 0 < k) (hp : ps.length + k ≤ 100000000) (hbase : base ≤ w.heap.size)
    (h : ∀ v' w', w'.ownsRow base 35 3 v' (ps ++ List.replicate k V.zero).length ((ps ++ List.replicate k V.zero).flatMap V.cells) → Below base w w' → OnlyS (fun k => v.ownBlock = some k) w w' → wpList Try.prog ops Q rest (a.put o.dst v') w') :
    wpList Try.prog ops Q (o :: rest) a w := by
  obtain ⟨i0, hi, hz0, hz1, hz2⟩ := info_parts Try.info_val
  obtain ⟨v', w', hr, h1, h2⟩ := run_append_zeros_own (P := Try.prog) w base t tn o.type 35 i0 _ 3 32 kn ht htn hi hz0 hz1 hz2 rfl (by decide) (fun u hu => by
    have : u ∈ [Value.int .u8 0, .int .i64 0, .string ByteArray.empty] := hu
    simp only [List.mem_cons, List.not_mem_nil, or_false] at this
    rcases this with rfl | rfl | rfl <;> rfl) v ps.length _ hown k h0 (by unfold maxLen; omega) (by omega) hbase
  refine Lib.wpList_append_run w hgd s x t tn ho v _ hs hx v' w' hr (h v' w' ?_ ?_ ?_)
  · rw [List.length_append, List.length_replicate, List.flatMap_append, ← zeros_vals]
    exact h1
  · exact (Below.refl base w).grown h2 hbase (fun b hb => (hown.lt b hb).1)
  · exact OnlyS.of_grown h2

end Go.Proofs.Ytjpdpgjalbjmgaa

/-
  The walk of the law OrderKeeps.
-/
namespace Go.Proofs.Ytjpdpgjalbjmgaa
open Go.RowKit Go.BigFrame

theorem Try.zero100 : (Try.prog.info? 44).map (fun i => (i.zero, i.size)) = some (some (.agg (Array.replicate 100 (.bool false))), 100) := by kernel_rfl
theorem run_zero100 : ∃ Z : Array Value, (∀ w : World, (zeroValue 44).run Try.prog w = .ok (.agg Z) w) ∧ Z.size = 100 ∧ ∀ k, k < 100 → Z[k]? = some (.bool false) := by
  refine ⟨Array.replicate 100 (.bool false), fun w => ?_, by simp, fun k hk => by rw [Array.getElem?_replicate, if_pos hk]⟩
  have h := Try.zero100
  cases hi : Try.prog.info? 44 with
  | none => rw [hi] at h; cases h
  | some i =>
    rw [hi] at h
    simp only [Option.map_some, Option.some.injEq, Prod.mk.injEq] at h
    simp [zeroValue, typeInfo, hi, h.1]

/-- Which numbers have come up. -/
def HadF (w : World) (g : Nat) (S : Nat → Bool) : Prop := ∃ cur : Array Value, w.heap[g]? = some (.cells cur 44 (0, 0)) ∧ cur.size = 100 ∧ ∀ k, k < 100 → cur[k]? = some (.bool (S k))
theorem HadF.cell {w : World} {g : Nat} {S : Nat → Bool} (h : HadF w g S) (k : Nat) (hk : k < 100) : w.cell? ⟨g, k, none⟩ = some (.bool (S k)) := by
  obtain ⟨cur, h1, h2, h3⟩ := h
  rw [cell_of_row w g k cur _ (0, 0) h1]
  exact h3 k hk
theorem HadF.free {w : World} {g : Nat} {S : Nat → Bool} (h : HadF w g S) (k : Nat) : w.frozen? ⟨g, k, none⟩ = false := by
  obtain ⟨cur, h1, h2, h3⟩ := h
  exact frozen_of_row w g k cur _ h1
theorem HadF.lt {w : World} {g : Nat} {S : Nat → Bool} (h : HadF w g S) : g < w.heap.size := by
  obtain ⟨cur, h1, h2, h3⟩ := h
  exact (Array.getElem?_eq_some_iff.1 h1).1
theorem HadF.ext {w w' : World} {g : Nat} {S : Nat → Bool} (h : HadF w g S) (hx : Ext w w') : HadF w' g S := by
  obtain ⟨cur, h1, h2, h3⟩ := h
  exact ⟨cur, (hx.block g (Array.getElem?_eq_some_iff.1 h1).1).trans h1, h2, h3⟩
theorem HadF.put {w : World} {g : Nat} {S : Nat → Bool} (h : HadF w g S) (t : Nat) (ht : t < 100) : HadF (w.setCell ⟨g, t, none⟩ (.bool true)) g (fun k => decide (k = t) || S k) := by
  obtain ⟨cur, h1, h2, h3⟩ := h
  refine ⟨cur.setIfInBounds t (.bool true), heap_setCell_same w g t cur _ _ h1, by simpa using h2, fun k hk => ?_⟩
  by_cases e : k = t
  · subst e
    rw [Array.getElem?_setIfInBounds_self_of_lt (by omega)]
    simp
  · rw [Array.getElem?_setIfInBounds_ne (fun h => e h.symm), h3 k hk]
    simp [e]

theorem OwnRows.part {base base0 : Nat} {w0 w w' : World} {hs : List Value} {rs : List (List V)} {X : Nat → Prop} (h : OwnRows base w hs rs) (h0 : OwnRows base0 w0 hs rs) (ho : OnlyS X w w') (hx : ∀ k, k < w0.heap.size → ¬ X k) : OwnRows base w' hs rs :=
  ⟨h.1, fun i h1 h2 => by
    have h3 := h.2 i h1 h2
    have h4 := (h0.2 i h1 h2).lt
    refine ⟨h3.1, ?_⟩
    rcases h3.2 with hn | ⟨g, cap, cur, e, hb, hgg, rest⟩
    · exact .inl hn
    · refine .inr ⟨g, cap, cur, e, hb, ?_, rest⟩
      rw [e] at h4
      rw [ho.block g (Array.getElem?_eq_some_iff.1 hgg).1 (hx g (h4 g rfl).2)]
      exact hgg⟩
/-- One of the heads is stored anew. -/
theorem OwnRows.setHead {base base' n : Nat} {w : World} {v : Value} {ys hs : List Value} {rs : List (List V)} (h : OwnRows base w hs rs) {g j : Nat} (ho : w.ownsRow base' 33 1 v n ys) (hg : v.ownBlock = some g) (u : Value) : OwnRows base (w.setCell ⟨g, j, none⟩ u) hs rs :=
  ⟨h.1, fun i h1 h2 => ownsRow_setCell_other (h.2 i h1 h2) (a := ⟨g, j, none⟩) (fun e => rows_apart (h.2 i h1 h2) ho g e hg) u⟩

set_option maxRecDepth 100000 in
set_option maxHeartbeats 8000000 in
theorem orderKeeps_walk (u : Value) (xs : List (List V)) (x : Value) (ks : List Ky) (w : World) (hu : RdRows w u xs) (hfx : ∀ r ∈ xs, ∀ x ∈ r, x.fits ∧ x.s.length ≤ maxLen) (hzu : ∀ n c, u = .slice none n c → n = 0 ∧ c = 0) (hx : RdKs w x ks) (_hk : ∀ k ∈ ks, k.fits) :
    Calls Try.prog 6 #[u, x] w fun e w' => e = .returned (.bool true) ∧ Below w.heap.size w w' := by
  obtain ⟨i1, hi1, hy0, hy1, hy2⟩ := info_parts Try.info_row
  obtain ⟨ZZ, hZ, hZ1, hZ2⟩ := run_zero100
  have HZ1 := Lib.hid hZ1
  have HZ2 := Lib.hid hZ2
  have HZR := Lib.hid hZ
  have HU := Lib.hid (RdRV.of_rows hu hzu)
  have HX := Lib.hid hx
  have HFX := Lib.hid hfx
  clear hu hx hfx hzu hZ hZ1 hZ2
  go_enter Try.func6, Try.ntmps6
  go_wp2_with fail
  refine (shown15_any w).mono ?_
  rintro e w0 ⟨rfl, x0⟩
  have HX0 := Lib.hid x0
  clear x0
  go_wp2_with fail
  refine (some15_any x ks w0 (HX.out.mono HX0.out)).mono ?_
  rintro e w1 ⟨⟨kv, rfl, hkv⟩, rfl⟩
  obtain ⟨ka, kc, rfl, hkc1, hkc2⟩ := hkv.shape
  have HKV := Lib.hid hkv
  generalize ks.take 10 = K at HKV hkc1
  obtain ⟨KL, hKL⟩ : ∃ KL, K.length = KL := ⟨_, rfl⟩
  rw [hKL] at hkc1 HKV ⊢
  have HKL := Lib.hid hKL
  unfold maxLen at hkc2
  clear hkv hKL
  go_wp2_with fail
  refine (few15_any u xs w1 (HU.out.mono HX0.out) HFX.out).mono ?_
  rintro e w2 ⟨⟨fu, M, rfl, hfu, hwu⟩, x2⟩
  obtain ⟨fa, fc, rfl, hfc1, hfc2⟩ := hfu.shape
  have HFU := Lib.hid (hfu.mono x2)
  have HWU := Lib.hid hwu
  have HX2 := Lib.hid (Ext.trans HX0.out x2)
  have HKV2 := Lib.hid (HKV.out.mono x2)
  generalize xs.take M = R at HFU HWU hfc1
  obtain ⟨N, hN⟩ : ∃ N, R.length = N := ⟨_, rfl⟩
  rw [hN] at hfc1 HFU ⊢
  have HN := Lib.hid hN
  have hN100 : N ≤ 100 := by have := HWU.out.1; omega
  unfold maxLen at hfc2
  obtain ⟨fh, hfh, -, -, -, hat⟩ := HFU.out.rd.heads
  have HAT := Lib.hid hat
  have HFH := Lib.hid hfh
  clear hfu hwu x2 hN HKV HX HU HFX hat hfh HX0
  go_wp2_with fail
  go_loopw [7, 8, 9, 22] (fun o _ _ i wr => ∃ (j : Nat) (oh : List Value) (X : List (List V)), j ≤ N ∧ i = .int .i64 j ∧ X.length = j ∧ Tagged X ∧ FitRs 200 X ∧ wr.ownsRow w2.heap.size 33 1 o oh.length oh ∧ OwnRows w2.heap.size wr oh X ∧ Ext w2 wr) (fun _ _ _ i _ => N - (intOf i).toNat)
  case atStart => exact ⟨0, [], [], Nat.zero_le _, rfl, rfl, Tagged.nil, fun r hr => absurd hr List.not_mem_nil, owns_nil _ _ _ _, OwnRows.nil _ _, Ext.keeps.refl _⟩
  case round =>
    obtain ⟨j, oh, X, hj, rfl, hXl, htg, hfX, ho, hor, hx⟩ := hrel
    have hol := hor.1
    have HXL := Lib.hid hXl
    have HTG := Lib.hid htg
    have HFX := Lib.hid hfX
    obtain ⟨oa, oc, rfl, ho1, ho2⟩ := own_shapeP ho
    have HO := Lib.hid ho
    have HOR := Lib.hid hor
    have HX := Lib.hid hx
    unfold maxLen at ho2
    have hohl : oh.length ≤ 10000000 := by omega
    have hoj : oh.length = j := by omega
    have HOJ := Lib.hid hoj
    rw [hoj] at ho1 HO
    clear ho hor hx hol hXl htg hfX hohl
    have hohl : j ≤ 10000000 := by omega
    try rw [hoj]
    clear hoj
    by_cases hlt : j < N
    · have hjl : j < R.length := by have := HN.out; omega
      obtain ⟨a1, a2, a3, ha, hra⟩ := HFH.out.get j hjl
      obtain ⟨g, off, rfl, c0⟩ := HAT.out j _ ha
      have x0 := (HX.out.cell (lt_of_cell c0)).trans c0
      have hal : a2 = R[j].length := hra.plain.1
      have ha20 : a2 ≤ 20 := by rw [hal]; exact (HWU.out.2 R[j] (List.getElem_mem hjl)).1
      have HFJ := Lib.hid (HWU.out.2 R[j] (List.getElem_mem hjl)).2
      obtain ⟨M8, hM8⟩ : ∃ M8 : Nat, M8 = min a2 8 := ⟨_, rfl⟩
      have hm8 : min (a2 : Int) 8 = (M8 : Int) := by omega
      have hM8a : M8 ≤ a2 := by omega
      have hM88 : M8 ≤ 8 := by omega
      have hac : a2 ≤ a3 := hra.plain.2.1
      have ha3 : a3 ≤ 9223372036854775807 := by have := hra.plain.2.2.1; unfold maxLen at this; omega
      have hM8c : M8 ≤ a3 := by omega
      obtain ⟨K8, hK8⟩ : ∃ K8 : Nat, K8 = 20 - M8 := ⟨_, rfl⟩
      have hk8 : (20 : Int) - (M8 : Int) = (K8 : Int) := by omega
      have hK80 : 0 < K8 := by omega
      have hK820 : K8 ≤ 20 := by omega
      have HRT := Lib.hid ((hra.take M8 hM8a).mono HX.out)
      have HROW := Lib.hid (show R[j].take M8 ++ List.replicate K8 V.zero ++ [⟨2, (j : Int), []⟩] = keepRow R[j] j by unfold keepRow; rw [← hal, ← hM8, ← hK8])
      have HTL := Lib.hid (show (R[j].take M8).length = M8 by rw [List.length_take]; omega)
      generalize R[j] = r at HFJ HRT HROW HTL
      have HL20 := Lib.hid (show (r.take M8 ++ List.replicate K8 V.zero).length = 20 by rw [List.length_append, HTL.out, List.length_replicate]; omega)
      have HRM := Lib.hid (HRT.out.mono (ext_new wr (.cells #[] 35)))
      have HSZ := Lib.hid HX.out.size
      clear ha hra c0 hal hM8 hK8
      go_upto_region 8 with (at_builtin; first
        | (refine wpList_append_vals rfl (.tmp 28) (.tmp 33) 33 rfl Try.underlying33 wr.heap.size _ ([] : List V) _ (r.take M8) rfl (empty_vals wr) rfl HRM.out (by have := HTL.out; simp; omega) (by simp) ?_
           intro v5 w5 h5 hb5 ho5
           rw [List.nil_append] at h5
           have HO5 := Lib.hid h5
           have HX5 := Lib.hid (show Ext wr w5 from (show Below wr.heap.size wr (wr.alloc (.cells #[] 35)) from ext_new wr _).trans hb5)
           clear h5 hb5 ho5)
        | (refine wpList_append_zeros rfl (.tmp 34) (.tmp 38) 33 3 .i64 rfl Try.underlying33 Try.underlying3 wr.heap.size _ (r.take M8) K8 rfl HO5.out rfl hK80 (by have := HTL.out; omega) HX5.out.size ?_
           intro v6 w6 h6 hb6 ho6
           rw [HL20.out] at h6
           have HO6 := Lib.hid h6
           have HX6 := Lib.hid (show Ext wr w6 from (show Below wr.heap.size wr w5 from HX5.out).trans hb6)
           obtain ⟨va, vc, rfl⟩ := owns3_shape h6
           clear h6 hb6 ho6)
        | (refine wpList_append_one rfl (.tmp 27) (.tmp 40) 22 rfl w2.heap.size 33 i1 (.slice none 0 0) 1 24 Try.underlying22 hi1 hy0 hy1 hy2 rfl (by decide) (by decide) _ j oh [.slice va 20 vc] rfl (owns_extS HO.out HX6.out) rfl rfl (by simp [Value.oneCell']) hohl (by have := HSZ.out; have := HX6.out.size; omega) ?_
           intro v7 w7 h7 hb7 ho7 _
           have HO7 := Lib.hid h7
           have HB7 := Lib.hid hb7
           have HS7 := Lib.hid ho7
           clear h7 hb7 ho7))
      obtain ⟨G, C, rfl, hGb, hGlt, -⟩ := owns_shape HO7.out (by omega)
      have cG : w7.cell? ⟨G, j, none⟩ = some (.slice va 20 vc) := by
        rw [HO7.out.cellAt j (by omega), List.getElem?_append_right (by rw [HOJ.out]; exact Nat.le_refl _), HOJ.out, Nat.sub_self]
        rfl
      have HOW7 := Lib.hid (owns_beside HO6.out HS7.out (rows_apart HO6.out (owns_extS HO.out HX6.out)))
      have HOR7 := Lib.hid ((HOR.out.ext HX6.out).beside (owns_extS HO.out HX6.out) HS7.out)
      have HSZ7 := Lib.hid (show wr.heap.size ≤ w7.heap.size from Nat.le_trans HX6.out.size HB7.out.size)
      have HXA := Lib.hid (ext_new w7 (.cells #[.int .u8 2, .int .i64 (j : Int), .string ⟨#[]⟩] 35))
      have HSRC := Lib.hid (show RdVals (w7.alloc (.cells #[.int .u8 2, .int .i64 (j : Int), .string ⟨#[]⟩] 35)) (.slice (some ⟨w7.heap.size, 0, none⟩) 1 1) [⟨2, (j : Int), []⟩] from RdVals.of_owns (lit_own w7 [⟨2, (j : Int), []⟩] (by simp [maxLen])))
      have HL21 := Lib.hid (show (r.take M8 ++ List.replicate K8 V.zero ++ [(⟨2, (j : Int), []⟩ : V)]).length = 21 by rw [List.length_append, HL20.out]; rfl)
      have HOW8 := Lib.hid (show World.ownsRow (w7.alloc (.cells #[.int .u8 2, .int .i64 (j : Int), .string ⟨#[]⟩] 35)) wr.heap.size 35 3 (.slice va 20 vc) (r.take M8 ++ List.replicate K8 V.zero).length ((r.take M8 ++ List.replicate K8 V.zero).flatMap V.cells) from by rw [HL20.out]; exact owns_extS HOW7.out HXA.out)
      have HG7 := Lib.hid HO7.out
      go_wp2_with (at_builtin; first
        | (refine wpList_append_vals rfl (.tmp 47) (.tmp 50) 33 rfl Try.underlying33 wr.heap.size _ (r.take M8 ++ List.replicate K8 V.zero) _ [⟨2, (j : Int), []⟩] rfl HOW8.out rfl HSRC.out (by rw [HL20.out, List.length_singleton]; omega) (by have := HSZ7.out; simp; omega) ?_
           intro v9 w9 h9 hb9 ho9
           rw [HL21.out] at h9
           have HO9 := Lib.hid h9
           have HB9 := Lib.hid hb9
           have HS9 := Lib.hid ho9
           obtain ⟨vb, vd, rfl⟩ := owns3_shape h9
           have HG9 := Lib.hid (owns_beside (owns_extS HG7.out HXA.out) HS9.out (rows_apart HOW8.out (owns_extS HG7.out HXA.out)).symm)
           have cG9 : w9.cell? ⟨G, j, none⟩ = some (.slice va 20 vc) := by
             rw [HG9.out.cellAt j (by omega), List.getElem?_append_right (by rw [HOJ.out]; exact Nat.le_refl _), HOJ.out, Nat.sub_self]
             rfl
           have fG9 : w9.frozen? ⟨G, j, none⟩ = false := HG9.out.frozenAt j
           clear h9 hb9 ho9))
      have HOR9 := Lib.hid (show OwnRows w2.heap.size w9 oh X from (HOR7.out.ext HXA.out).part HOR.out HS9.out (fun k hk e => by
        have h := (HOW7.out.lt k e).1
        omega))
      have HNEW := Lib.hid (show OwnRows w2.heap.size w9 [.slice vb 21 vd] [keepRow r j] from by
        have h : w9.ownsRow wr.heap.size 35 3 (.slice vb 21 vd) (r.take M8 ++ List.replicate K8 V.zero ++ [(⟨2, (j : Int), []⟩ : V)]).length ((r.take M8 ++ List.replicate K8 V.zero ++ [(⟨2, (j : Int), []⟩ : V)]).flatMap V.cells) := by
          rw [HL21.out]
          exact HO9.out
        rw [HROW.out] at h
        exact (OwnRows.one h).base_le HSZ.out)
      have HORF := Lib.hid ((HOR9.out.append HNEW.out).setHead (g := G) (j := j) HG9.out rfl (.slice vb 21 vd))
      have HOF := Lib.hid (show (w9.setCell ⟨G, j, none⟩ (.slice vb 21 vd)).ownsRow w2.heap.size 33 1 (.slice (some ⟨G, 0, none⟩) (j + 1) C) (oh ++ [Value.slice vb 21 vd]).length (oh ++ [Value.slice vb 21 vd]) from by
        have h := (HG9.out.stored j (.slice vb 21 vd)).1
        rw [List.set_append_right _ _ (by rw [HOJ.out]; exact Nat.le_refl _), HOJ.out, Nat.sub_self, List.set_cons_zero] at h
        rw [List.length_append, HOJ.out]
        exact h)
      have HFN := Lib.hid (show FitRs 200 (X ++ [keepRow r j]) from fun q hq => by
        rcases List.mem_append.1 hq with hq | hq
        · exact HFX.out q hq
        · rw [List.mem_singleton] at hq
          subst hq
          intro v hv
          unfold keepRow at hv
          rcases List.mem_append.1 hv with hv | hv
          · rcases List.mem_append.1 hv with hv | hv
            · exact HFJ.out v (List.mem_of_mem_take hv)
            · rw [List.eq_of_mem_replicate hv]
              exact ⟨V.zero_fits, Nat.zero_le _⟩
          · rw [List.mem_singleton] at hv
            subst hv
            exact ⟨⟨by show (0 : Int) ≤ 2; decide, by show (2 : Int) ≤ 255; decide, by show -9223372036854775808 ≤ (j : Int); omega, by show (j : Int) ≤ 9223372036854775807; omega⟩, Nat.zero_le _⟩)
      have HEF := Lib.hid (show Below w2.heap.size w2 (w9.setCell ⟨G, j, none⟩ (.slice vb 21 vd)) from
        Below.setCell ((((show Below w2.heap.size w2 wr from HX.out).trans ((show Below wr.heap.size wr w6 from HX6.out).mono HSZ.out)).trans HB7.out).trans (((show Below w7.heap.size w7 _ from HXA.out).mono (Nat.le_trans HSZ.out HSZ7.out)).trans (HB9.out.mono HSZ.out))) hGb _)
      go_roundw
      case rel => exact ⟨j + 1, _, X ++ [keepRow r j], by omega, by go_num, by rw [List.length_append, HXL.out]; rfl, HTG.out.snoc (keepRow_len r j) (by rw [HXL.out]; exact keepRow_tag r j), HFN.out, HOF.out, HORF.out, HEF.out⟩
      case measure => simp [intOf]; omega
    · have hjN : j = N := by omega
      have HOJ2 := Lib.hid (show oh.length = N by rw [HOJ.out, hjN])
      have HXL2 := Lib.hid (show X.length = N by rw [HXL.out, hjN])
      have hKP := HKV2.out.plain.2.2.2
      have HKP := Lib.hid hKP
      rw [hjN] at HO
      rw [hjN]
      clear hjN hKP HOJ HXL HAT HFH HFU HWU HN
      go_wp2_with fail
      generalize wr = wo at HO HOR HX ⊢
      go_loopw [11, 56] (fun _ i wr => ∃ c : Nat, c ≤ KL ∧ i = .int .i64 c ∧ Ext wo wr) (fun _ i _ => KL - (intOf i).toNat)
      case atStart => exact ⟨0, Nat.zero_le _, rfl, Ext.keeps.refl _⟩
      case round =>
        obtain ⟨c, hc, rfl, hx⟩ := hrel
        have HX3 := Lib.hid hx
        clear hx
        by_cases hlt2 : c < KL
        · have hcl : c < K.length := by have := HKL.out; omega
          obtain ⟨kg, koff, rfl, k0, k1⟩ := HKP.out c hcl
          have x0 := ((Ext.trans HX.out HX3.out).cell (lt_of_cell k0)).trans k0
          have x1 := ((Ext.trans HX.out HX3.out).cell (lt_of_cell k1)).trans k1
          generalize K[c] = q at x0 x1
          obtain ⟨qc, qd⟩ := q
          simp only at x0 x1
          clear k0 k1
          have HXK := Lib.hid (Ext.trans HX3.out (ext_new wr (.cells #[.int .i64 qc, .bool qd] 43)))
          by_cases hq0 : qc < 0
          · have d1 : decide (qc < 0) = true := decide_eq_true hq0
            go_wp2_with fail
            go_ret
            exact ⟨rfl, Ext.trans HX2.out (Ext.trans HX.out HXK.out)⟩
          · have d1 : decide (qc < 0) = false := decide_eq_false hq0
            by_cases hq1 : 20 ≤ qc
            · have d2 : decide (qc ≥ 20) = true := decide_eq_true hq1
              go_wp2_with fail
              go_ret
              exact ⟨rfl, Ext.trans HX2.out (Ext.trans HX.out HXK.out)⟩
            · have d2 : decide (qc ≥ 20) = false := decide_eq_false hq1
              go_wp2_with fail
              go_roundw
              case rel => exact ⟨c + 1, by omega, by go_num, HXK.out⟩
              case measure => simp [intOf]; omega
        · have HO3 := Lib.hid (owns_extS HO.out HX3.out)
          have HOR3 := Lib.hid (HOR.out.ext HX3.out)
          have HXR := Lib.hid (show RdRV wr (.slice oa N oc) X from ⟨oh, RdV.of_owns HO3.out, HOR3.out.rd⟩)
          have HK3 := Lib.hid (HKV2.out.mono (Ext.trans HX.out HX3.out))
          have HE3 := Lib.hid (Ext.trans HX2.out (Ext.trans HX.out HX3.out))
          have HXLE := Lib.hid (show X.length ≤ 100000 by have := HXL2.out; omega)
          have HF5 := Lib.hid (show FitL X from ⟨HFX.out.le (by decide), fun r hr => by
            obtain ⟨i, hi, rfl⟩ := List.mem_iff_getElem.1 hr
            rw [(HTG.out i hi).1]
            decide⟩)
          clear HX3 HX HO HOR HKP HKV2
          go_wp2_with fail
          generalize wr = w3 at HO3 HOR3 HXR HK3 HE3 ⊢
          refine (pSort15_any (.slice oa N oc) (.slice ka KL kc) X K w3 HXR.out HK3.out HF5.out HXLE.out).mono ?_
          rintro e w4 ⟨⟨yv, rfl, hyv⟩, x4⟩
          obtain ⟨yh, hy1', hy2'⟩ := hyv
          have HYR := Lib.hid hy2'
          have HX4 := Lib.hid x4
          have HYL := Lib.hid (show yh.length = N by rw [hy2'.1, (sortS_is K X).length (cmpR_pre K), HXL2.out])
          obtain ⟨ya, yc, rfl, hyc1, hyc2, -⟩ := RdV.cellsAt hy1'.rd
          have HYV := Lib.hid (show RdRV w4 (.slice ya yh.length yc) (sortS K X) from ⟨yh, hy1'.rd, hy2'.rd⟩)
          have HFS := Lib.hid (show FitL (sortS K X) from HF5.out.sort K)
          have HSL := Lib.hid (show (sortS K X).length ≤ 100000 by rw [(sortS_is K X).length (cmpR_pre K)]; exact HXLE.out)
          have HSD := Lib.hid (show sortedR K (sortS K X) = true from decide_eq_true (sortS_is K X).1)
          have HAG := Lib.hid (sortS_again K X)
          have HTP := Lib.hid (HTG.out.apart K)
          obtain ⟨Y, hY⟩ : ∃ Y, sortS K X = Y := ⟨_, rfl⟩
          have HTA := Lib.hid (HTG.out.sorted' hY)
          have HTS := Lib.hid (HTG.out.stays' hY)
          rw [hY] at HYR HYV HFS HSL HSD HAG HTP
          rw [HYL.out] at HYV hyc1 ⊢
          clear hY hy2'
          unfold maxLen at hyc2
          clear hy1' x4
          go_wp2_with fail
          refine (pSorted15_any (.slice ya N yc) (.slice ka KL kc) Y K w4 HYV.out (HK3.out.mono HX4.out) HFS.out HSL.out).mono ?_
          rw [HSD.out]
          rintro e w5 ⟨rfl, x5⟩
          have HX5 := Lib.hid x5
          clear x5
          go_wp2_with fail
          refine (pSort15_any (.slice ya N yc) (.slice ka KL kc) Y K w5 (HYV.out.mono HX5.out) (HK3.out.mono (Ext.trans HX4.out HX5.out)) HFS.out HSL.out).mono ?_
          rw [HAG.out]
          rintro e w6 ⟨⟨zv, rfl, hzv⟩, x6⟩
          have HZV := Lib.hid hzv.rd
          have HX6 := Lib.hid (Ext.trans HX5.out x6)
          clear hzv x6 HX5
          go_wp2_with fail
          refine (refSameRows_any zv (.slice ya N yc) Y Y w6 HZV.out (HYV.out.rd.mono HX6.out)).mono ?_
          rw [decide_eq_true rfl]
          rintro e w7 ⟨rfl, x7⟩
          have HX7 := Lib.hid (Ext.trans HX6.out x7)
          have hZ := HZR.out
          clear x7 HX6 HZV
          go_wp2_with fail
          have HAD0 := Lib.hid (show HadF (w7.alloc (.cells ZZ 44)) w7.heap.size (fun _ => false) from ⟨ZZ, heap_alloc_new _ _, HZ1.out, fun k hk => HZ2.out k hk⟩)
          have HAX := Lib.hid (ext_new w7 (.cells ZZ 44))
          have HYV7 := Lib.hid (HYV.out.mono HX7.out)
          have HXR7 := Lib.hid (HXR.out.mono (Ext.trans HX4.out HX7.out))
          obtain ⟨yhs, hyh, -, -, -, hyat⟩ := HYV7.out.rd.heads
          obtain ⟨xhs, hxh, -, -, -, hxat⟩ := HXR7.out.rd.heads
          have HYH := Lib.hid hyh
          have HYAT := Lib.hid hyat
          have HXH := Lib.hid hxh
          have HXAT := Lib.hid hxat
          have HKK := Lib.hid (HK3.out.mono (Ext.trans HX4.out HX7.out))
          have HE7 := Lib.hid (Ext.trans HE3.out (Ext.trans HX4.out HX7.out))
          have HYN := Lib.hid (show Y.length = N by rw [← HYR.out.1, HYL.out])
          clear hyh hyat hxh hxat hZ HYV7 HXR7 HK3 HX4 HX7 HYV HXR HO3 HOR3 HYR HYL HSL HSD HAG HOJ2 HTG HFX HZ1 HZ2 HZR hlt hlt2
          generalize w7.alloc (.cells ZZ 44) = W8 at HAD0 HAX ⊢
          go_loopw [14, 15, 94] (fun _ _ i wr => ∃ (j : Nat) (S : Nat → Bool), j ≤ N ∧ i = .int .i64 j ∧ HadF wr w7.heap.size S ∧ (∀ k : Nat, S k = true → ∃ i, ∃ h : i < Y.length, i < j ∧ tagN Y[i] = (k : Int)) ∧ Ext w7 wr) (fun _ _ i _ => N - (intOf i).toNat)
          case atStart => exact ⟨0, _, Nat.zero_le _, rfl, HAD0.out, fun k h => (by cases h), HAX.out⟩
          case round =>
            obtain ⟨j, S, hj, rfl, hhad, hS, hx⟩ := hrel
            have HH := Lib.hid hhad
            have HSS := Lib.hid hS
            have HX8 := Lib.hid hx
            clear hhad hS hx
            by_cases hlt : j < N
            · have hjY : j < Y.length := by have := HYN.out; omega
              obtain ⟨t, ht, hYX, h21, htag, htn⟩ := HTA.out j hjY
              have htN : t < N := by have := HXL2.out; omega
              obtain ⟨y1, y2, y3, hyi, hry⟩ := HYH.out.get j hjY
              obtain ⟨g, off, rfl, c0⟩ := HYAT.out j _ hyi
              obtain ⟨x1, x2, x3, hxt, hrx⟩ := HXH.out.get t ht
              obtain ⟨g', off', rfl, c1⟩ := HXAT.out t _ hxt
              have hy21 : y2 = 21 := by rw [hry.plain.1, h21]
              subst hy21
              obtain ⟨g1, off1, rfl, -, k1, -⟩ := hry.plain.2.2.2 20 (by omega)
              have hn20 : (Y[j][20]'(by omega)).n = (t : Int) := by
                rw [List.getElem?_eq_getElem (by omega)] at htag
                rw [Option.some.inj htag]
              rw [hn20] at k1
              have hSf : S t = false := by
                cases h : S t with
                | false => rfl
                | true =>
                  exfalso
                  obtain ⟨i, hi, hij, hti⟩ := HSS.out t h
                  have h2 := List.pairwise_iff_getElem.1 HTP.out i j hi hjY hij
                  exact h2 (hti.trans htn.symm)
              have q0 := (HX8.out.cell (lt_of_cell c0)).trans c0
              have q1 := (HX8.out.cell (lt_of_cell c1)).trans c1
              have q2 := (HX8.out.cell (lt_of_cell k1)).trans k1
              have q3 := HH.out.cell t (by omega)
              rw [hSf] at q3
              have f3 := HH.out.free t
              have dN : decide (N ≤ t) = false := decide_eq_false (by omega)
              have dN' : decide ((t : Int) ≥ (N : Int)) = false := decide_eq_false (by omega)
              have d0 : decide ((t : Int) < 0) = false := decide_eq_false (by omega)
              have ht100 : t < 100 := by omega
              have HSR := Lib.hid (refSameRow_any _ _ Y[j] X[t] wr (hry.mono HX8.out) (hrx.mono HX8.out))
              rw [decide_eq_true hYX] at HSR
              have HC0 := Lib.hid c0
              have HK1 := Lib.hid k1
              have HPUT := Lib.hid (fun W (h : HadF W w7.heap.size S) => h.put t (by omega))
              have HSN := Lib.hid (show ∀ k : Nat, (decide (k = t) || S k) = true → ∃ i, ∃ h : i < Y.length, i < j + 1 ∧ tagN Y[i] = (k : Int) from fun k hk => by
                by_cases e : k = t
                · subst e
                  exact ⟨j, hjY, by omega, htn⟩
                · have hk2 : S k = true := by simpa [e] using hk
                  obtain ⟨i, hi, hij, hti⟩ := HSS.out k hk2
                  exact ⟨i, hi, by omega, hti⟩)
              have HRY := Lib.hid hry
              have HTN := Lib.hid htn
              have HFJ := Lib.hid (HFS.out.1 Y[j] (List.getElem_mem hjY))
              clear c0 c1 k1 hyi hxt hry hrx hYX h21 htag htn hn20 hSf
              go_wp2_with fail
              refine HSR.out.mono ?_
              rintro e w9 ⟨rfl, x9⟩
              have HX9 := Lib.hid (Ext.trans HX8.out x9)
              have HH9 := Lib.hid (HH.out.ext x9)
              have q0 := HC0.out
              have q0 := (HX9.out.cell (lt_of_cell HC0.out)).trans HC0.out
              have q2 := (HX9.out.cell (lt_of_cell HK1.out)).trans HK1.out
              have q3 := HH9.out.cell t (by omega)
              have f3 := HH9.out.free t
              clear x9
              generalize S t = St at q3
              go_upto_region 26 with fail
              have HHP := Lib.hid (HPUT.out w9 HH9.out)
              have HXP := Lib.hid (show Below w7.heap.size w7 (w9.setCell ⟨w7.heap.size, t, none⟩ (.bool true)) from Below.setCell (show Below w7.heap.size w7 w9 from HX9.out) (Nat.le_refl _) _)
              generalize w9.setCell ⟨w7.heap.size, t, none⟩ (.bool true) = wp at HHP HXP ⊢
              clear q0 q2 q3 f3 HH9 HX9 HSR
              by_cases hj0 : j = 0
              · subst hj0
                have dj : decide (((0 : Nat) : Int) > 0) = false := rfl
                go_wp2_with fail
                refine wp_region_segs Ext Ext.keeps [([0, 1, 2, 3, 4, 5, 6, 7, 8, 9], some 10), ([11, 12, 13, 14, 15, 16, 17, 18, 19, 20, 21, 22, 23, 24, 25, 26, 27], none)] (by kernel_rfl) (by kernel_rfl) (fun c a a' w e h => (by exact ⟨e ▸ h.1, h.2⟩)) ?_
                simp only [pickSegs, pickOps, List.map_cons, List.map_nil, Option.map_some, Option.map_none, Option.getD_some, List.getElem?_toArray, List.getElem?_cons_zero, List.getElem?_cons_succ]
                refine wpSegs_some fun K' hK' => ?_
                repeat go_big_quiet_step (fail)
                refine wpQuiet_nil ?_
                go_wp2_with fail
                refine ⟨Ext.keeps.refl _, hK' _ _ ?_⟩
                clear hK' K'
                refine wpSegs_none ?_
                repeat go_big_quiet_step (fail)
                refine wpQuiet_nil (wpSegs_nil ?_)
                go_wp2_with fail
                go_roundw
                case rel => exact ⟨0 + 1, _, by omega, by go_num, HHP.out.ext (Ext.drew _), HSN.out, Ext.trans HXP.out (Ext.drew _)⟩
                case measure => simp [intOf]; omega
              · have hjp : j - 1 < Y.length := by omega
                have dj : decide ((j : Int) > 0) = true := decide_eq_true (by omega)
                have dj' : decide (j > 0) = true := decide_eq_true (by omega)
                obtain ⟨t', ht', -, h21', htag', htn'⟩ := HTA.out (j - 1) hjp
                obtain ⟨z1, z2, z3, hzi, hrz⟩ := HYH.out.get (j - 1) hjp
                obtain ⟨gz, offz, ez, cz⟩ := HYAT.out (j - 1) _ hzi
                have ez2 : gz = g ∧ offz = off := by simpa [eq_comm] using ez
                obtain ⟨rfl, rfl⟩ := ez2
                have hz21 : z2 = 21 := by rw [hrz.plain.1, h21']
                subst hz21
                obtain ⟨g3, off3, rfl, -, k3, -⟩ := hrz.plain.2.2.2 20 (by omega)
                have hn20 : (Y[j - 1][20]'(by omega)).n = (t' : Int) := by
                  rw [List.getElem?_eq_getElem (by omega)] at htag'
                  rw [Option.some.inj htag']
                rw [hn20] at k3
                have e1 : (j : Int) - 1 = ((j - 1 : Nat) : Int) := by omega
                have y0 : ∀ z : Later Ext wp.drew, z.val.cell? ⟨gz, offz + (j - 1), none⟩ = some (.slice (some ⟨g3, off3, none⟩) 21 z3) := fun z => ((Ext.trans HXP.out (Ext.trans (Ext.drew wp) z.ext)).cell (lt_of_cell cz)).trans cz
                have HPC := Lib.hid (pCompare15_any _ _ _ Y[j - 1] Y[j] K wp.drew (hrz.mono (Ext.trans HXP.out (Ext.drew wp))) (HRY.out.mono (Ext.trans HXP.out (Ext.drew wp))) (HKK.out.mono (Ext.trans HXP.out (Ext.drew wp))) (HFS.out.1 _ (List.getElem_mem hjp)) HFJ.out)
                have HST := Lib.hid (show cmpR K Y[j - 1] Y[j] = 0 → t' < t from fun hc => by
                  have h := HTS.out (j - 1) (by omega)
                  simp only [show j - 1 + 1 = j by omega] at h
                  have h2 := h hc
                  rw [htn', HTN.out] at h2
                  omega)
                generalize cmpR K Y[j - 1] Y[j] = C at HPC HST
                have HCZ := Lib.hid cz
                have HK3 := Lib.hid k3
                clear cz k3 hzi hrz ez h21' htag' htn' hn20
                go_wp2_with fail
                refine wp_region_segs Ext Ext.keeps [([0, 1, 2, 3, 4, 5, 6, 7, 8, 9], some 10), ([11, 12, 13, 14, 15, 16, 17, 18, 19, 20, 21, 22, 23, 24, 25, 26, 27], none)] (by kernel_rfl) (by kernel_rfl) (fun c a a' w e h => (by exact ⟨e ▸ h.1, h.2⟩)) ?_
                simp only [pickSegs, pickOps, List.map_cons, List.map_nil, Option.map_some, Option.map_none, Option.getD_some, List.getElem?_toArray, List.getElem?_cons_zero, List.getElem?_cons_succ]
                refine wpSegs_some fun K' hK' => ?_
                repeat go_big_quiet_step (fail)
                refine wpQuiet_nil ?_
                clear y0
                go_wp2_with fail
                refine HPC.out.mono ?_
                rintro e w10 ⟨rfl, x10⟩
                have HX10 := Lib.hid x10
                have HXW := Lib.hid (Ext.trans HXP.out (Ext.trans (Ext.drew wp) x10))
                have HHW := Lib.hid ((HHP.out.ext (Ext.drew wp)).ext x10)
                have y0 : ∀ z : Later Ext w10, z.val.cell? ⟨gz, offz + (j - 1), none⟩ = some (.slice (some ⟨g3, off3, none⟩) 21 z3) := fun z => ((Ext.trans HXW.out z.ext).cell (lt_of_cell HCZ.out)).trans HCZ.out
                have y1 : ∀ z : Later Ext w10, z.val.cell? ⟨g3, off3 + 20 * 3 + 1, none⟩ = some (.int .i64 (t' : Int)) := fun z => ((Ext.trans HXW.out z.ext).cell (lt_of_cell HK3.out)).trans HK3.out
                have y2 : ∀ z : Later Ext w10, z.val.cell? ⟨g1, off1 + 20 * 3 + 1, none⟩ = some (.int .i64 (t : Int)) := fun z => ((Ext.trans HXW.out z.ext).cell (lt_of_cell HK1.out)).trans HK1.out
                clear x10
                go_wp2_with fail
                refine ⟨HX10.out, hK' _ _ ?_⟩
                clear hK' K'
                refine wpSegs_none ?_
                by_cases hC : C = 0
                · have htt := HST.out hC
                  subst hC
                  have dtt : decide ((t' : Int) > (t : Int)) = false := decide_eq_false (by omega)
                  have dtt' : decide (t < t') = false := decide_eq_false (by omega)
                  repeat go_big_quiet_step (fail)
                  refine wpQuiet_nil (wpSegs_nil ?_)
                  clear y0 y1 y2
                  go_wp2_with fail
                  go_roundw
                  case rel => exact ⟨j + 1, _, by omega, by go_num, HHW.out, HSN.out, HXW.out⟩
                  case measure => simp [intOf]; omega
                · have dC : (C == (0 : Int)) = false := beq_eq_false_iff_ne.2 hC
                  clear hC
                  repeat go_big_quiet_step (fail)
                  refine wpQuiet_nil (wpSegs_nil ?_)
                  clear y0 y1 y2
                  go_wp2_with fail
                  go_roundw
                  case rel => exact ⟨j + 1, _, by omega, by go_num, HHW.out, HSN.out, HXW.out⟩
                  case measure => simp [intOf]; omega
            · go_wp2_with fail
              go_ret
              exact ⟨rfl, Ext.trans HE7.out HX8.out⟩

end Go.Proofs.Ytjpdpgjalbjmgaa
