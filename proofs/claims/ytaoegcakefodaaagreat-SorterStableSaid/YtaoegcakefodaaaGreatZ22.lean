/-
  Texts of this proof, merged.
-/
import Derived.Lib.SliceRun
import Derived.Test.YtaoegcakefodaaaGreatZ1
import Derived.Test.YtaoegcakefodaaaGreatZ2
import Derived.Test.YtaoegcakefodaaaGreatZ3
import Derived.Test.YtaoegcakefodaaaGreatZ4
import Derived.Test.YtaoegcakefodaaaGreatZ5
import Derived.Test.YtaoegcakefodaaaGreatZ6
import Derived.Test.YtaoegcakefodaaaGreatZ7
import Derived.Test.YtaoegcakefodaaaGreatZ8
import Derived.Test.YtaoegcakefodaaaGreatZ9
import Derived.Test.YtaoegcakefodaaaGreatZ10
import Derived.Test.YtaoegcakefodaaaGreatZ11
import Derived.Test.YtaoegcakefodaaaGreatZ12
import Derived.Test.YtaoegcakefodaaaGreatZ13
import Derived.Test.YtaoegcakefodaaaGreatZ14
import Derived.Test.YtaoegcakefodaaaGreatZ15
import Derived.Test.YtaoegcakefodaaaGreatZ16
import Derived.Test.YtaoegcakefodaaaGreatZ17
import Derived.Test.YtaoegcakefodaaaGreatZ18
import Derived.Test.YtaoegcakefodaaaGreatZ19
import Derived.Test.YtaoegcakefodaaaGreatZ20
import Derived.Test.YtaoegcakefodaaaGreatZ21
namespace Go.Proofs.YtaoegcakefodaaaGreat
open Go.RowKit Go.BigFrame
theorem Tryz.info_file : (Tryz.prog.info? 104).map (fun i => (i.zero, i.size, i.bytes)) = some (some (.pointer none), 1, 8) := by kernel_rfl
theorem setRow_only (w : World) (g : Nat) (cs : Array Value) : OnlyS (fun b => b = g) w (w.setRow g cs) :=
  ⟨rfl, rfl, rfl, by simp [World.setRow], fun b _ hb => setRow_other w g b cs hb⟩
theorem run_copy_here {P : Program} (w : World) (dT sT ty elem : TypeId) (hu : P.underlying dT = some (.slice elem)) (hsz : (P.info? elem).map (·.size) = some 1)
    (g off dLen dCap : Nat) (ad : Addr) (sLen sCap : Nat) (cur : List Value) (t : TypeId) (hg : w.heap[g]? = some (.cells cur.toArray t (0, 0))) (cs : List Value) (hn : cs.length = Nat.min sLen dLen)
    (hsrc : ∀ j v, cs[j]? = some v → w.cell? (ad.add j) = some v) (hfit : off + cs.length ≤ cur.length) (h1 : ∀ v ∈ cs, v.oneCell' = true) :
    ∃ w', (Builtin.copy_ #[dT, sT] ty #[.slice (some ⟨g, off, none⟩) dLen dCap, .slice (some ad) sLen sCap]).run P w = .ok (goInt cs.length) w' ∧ w'.heap[g]? = some (.cells (splice cur off cs).toArray t (0, 0)) ∧ OnlyS (fun b => b = g) w w' := by
  refine ⟨_, run_copy_row (P := P) w dT sT ty elem g off dLen dCap ad sLen sCap cur.toArray t cs hu hsz hg hn hsrc (by simpa using hfit) h1, ?_, setRow_only w g _⟩
  simpa [splice] using setRow_heap w g _ _ t _ hg
theorem run_clear_row {P : Program} (w : World) (t ty e : TypeId) (z : Value) (ht : P.underlying t = some (.slice e)) (hv : ∀ w, (zeroValue e).run P w = .ok z w) (hz : z.cells = #[z]) (h1 : z.oneCell' = true)
    (g off n c : Nat) (hn : 0 < n) (cur : List Value) (tc : TypeId) (hg : w.heap[g]? = some (.cells cur.toArray tc (0, 0))) (hfit : off + n ≤ cur.length) :
    ∃ w', (Builtin.clear_ #[t] ty #[.slice (some ⟨g, off, none⟩) n c]).run P w = .ok (.tuple #[]) w' ∧ w'.heap[g]? = some (.cells (splice cur off (List.replicate n z)).toArray tc (0, 0)) ∧ OnlyS (fun b => b = g) w w' := by
  have hzc : (Builtin.zeroCells z.cells n).toList = List.replicate n z := by
    rw [hz]
    simp [Builtin.zeroCells]
    apply List.ext_getElem
    · simp
    · intro i h1 h2
      simp [Nat.mod_one]
  obtain ⟨W, hst, hW, hWo⟩ : ∃ W, (storeCells ⟨g, off, none⟩ (List.replicate n z)).run P w = .ok () W ∧ W.heap[g]? = some (.cells (splice cur off (List.replicate n z)).toArray tc (0, 0)) ∧ OnlyS (fun b => b = g) w W := by
    refine ⟨_, run_storeCells_at P g off tc (List.replicate n z) 0 cur.toArray w hg (by simpa using hfit) (by intro v hv'; rw [List.eq_of_mem_replicate hv']; exact h1), ?_, setRow_only w g _⟩
    simpa [splice] using setRow_heap w g _ _ tc _ hg
  obtain ⟨m, rfl⟩ : ∃ m, n = m + 1 := ⟨n - 1, by omega⟩
  exact ⟨W, by simp [Builtin.clear_, run_underlying ht, hv, hzc, hst], hW, hWo⟩
theorem wpList_append_here {P : Program} {w : World} {ops : Array Oper} {rest : List Oper} {o : Oper} {a : Act} {Q : Exit → Act → World → Prop} (hgd : o.guard = none) (s x : Operand) (t : TypeId)
    (ho : o.op = .call { callee := .builtin .append, args := #[s, x], argTypes := #[t, t] }) (base : Nat) (e : TypeId) (i : TypeInfo) (ht : P.underlying t = some (.slice e)) (hi : P.info? e = some i) (hsize : i.size = 1)
    (g n cap : Nat) (xs : List Value) (hs : a.eval s = .slice (some ⟨g, 0, none⟩) n cap) (hown : w.ownsRow base e 1 (.slice (some ⟨g, 0, none⟩) n cap) n xs)
    (ad : Addr) (c0 : Nat) (y : Value) (hx : a.eval x = .slice (some ad) 1 c0) (hy : w.cell? ad = some y) (h1 : y.oneCell' = true) (hfit : n + 1 ≤ cap)
    (h : ∀ w', w'.ownsRow base e 1 (.slice (some ⟨g, 0, none⟩) (n + 1) cap) (n + 1) (xs ++ [y]) → OnlyS (fun b => b = g) w w' → wpList P ops Q rest (a.put o.dst (.slice (some ⟨g, 0, none⟩) (n + 1) cap)) w') : wpList P ops Q (o :: rest) a w := by
  refine wpList_plain hgd fun K hK => ?_
  have hy0 : ∀ j u, [y][j]? = some u → w.cell? (ad.add j) = some u := fun j u hj => by
    cases j with
    | zero => rw [add_zero, hy]; exact hj
    | succ j => simp at hj
  obtain ⟨w', hr1, hr2, hr3⟩ := run_append_fits (P := P) w base t o.type e i 1 ht hi hsize g n cap xs hown ad 1 c0 [y] (by rw [Nat.mul_one]; rfl) hy0 (fun u hu => by rw [List.mem_singleton] at hu; rw [hu]; exact h1) hfit
  unfold Oper.wp
  simp [execOp, ho, resolve, invoke, builtin, hs, hx] at hr1 ⊢
  simp [hr1, Result.andThen]
  exact hK _ _ (h w' hr2 ((OnlyS.of_grown (v := .slice (some ⟨g, 0, none⟩) n cap) hr3).mono fun b _ hb => (Option.some.inj hb).symm))
theorem splice_mid (cur xs : List Value) (n i j : Nat) (x z : Value) (hc : n ≤ cur.length) (hx : cur.take n = xs) (hij : i + 2 ≤ j) (hjn : j < n) :
    (splice (splice (splice cur i [x]) (i + 1) (xs.drop j)) (i + 1 + (n - j)) (List.replicate (j - i - 1) z)).take (i + 1 + (n - j)) = xs.take i ++ x :: xs.drop j := by
  have hxl : xs.length = n := by rw [← hx, List.length_take]; omega
  subst hx
  unfold splice
  apply List.ext_getElem?
  intro k
  simp only [List.getElem?_take, List.getElem?_append, List.length_take, List.length_append, List.length_drop, List.length_replicate, List.length_cons, List.length_nil, List.getElem?_drop, List.getElem?_cons, List.getElem?_replicate]
  grind
theorem splice_length (cur : List Value) (off : Nat) (cs : List Value) (h : off + cs.length ≤ cur.length) : (splice cur off cs).length = cur.length := length_splice cur off cs h
theorem splice_at (cur : List Value) (off k : Nat) (cs : List Value) (h : off + cs.length ≤ k) (h2 : off ≤ cur.length) : (splice cur off cs)[k]? = cur[k]? := by
  unfold splice
  rw [List.getElem?_append_right (by rw [List.length_take]; omega), List.getElem?_append_right (by rw [List.length_take]; omega), List.getElem?_drop, List.length_take]
  congr 1
  omega
end Go.Proofs.YtaoegcakefodaaaGreat

namespace Go.Proofs.YtaoegcakefodaaaGreat
open Go.RowKit Go.BigFrame
set_option maxRecDepth 100000 in
set_option maxHeartbeats 4000000 in
theorem pReplace18_any (B g n cap i j : Nat) (xs : List Value) (ad : Addr) (c0 : Nat) (x : Value) (w : World) (h : w.ownsRow B 104 1 (.slice (some ⟨g, 0, none⟩) n cap) n xs) (hx : w.cell? ad = some x) (hxo : x.oneCell' = true) (hxs : ∀ v ∈ xs, v.oneCell' = true) (hg : ad.block ≠ g) (hij : i + 2 ≤ j) (hjn : j ≤ n) :
    Calls Tryz.prog 108 #[.slice (some ⟨g, 0, none⟩) n cap, .int .i64 i, .int .i64 j, .slice (some ad) 1 c0] w fun e w' => e = .returned (.slice (some ⟨g, 0, none⟩) (i + 1 + (n - j)) cap) ∧ w'.ownsRow B 104 1 (.slice (some ⟨g, 0, none⟩) (i + 1 + (n - j)) cap) (i + 1 + (n - j)) (xs.take i ++ x :: xs.drop j) ∧ OnlyS (fun b => b = g) w w' := by
  obtain ⟨i1, hi1, hy0, hy1, hy2⟩ := info_parts Tryz.info_file
  have hzv : ∀ w, (zeroValue 104).run Tryz.prog w = .ok (.pointer none) w := fun w => by
    simp [zeroValue, typeInfo, hi1, hy0]
  have hsz : (Tryz.prog.info? 104).map (·.size) = some 1 := by rw [hi1]; simp [hy1]
  have hlen : xs.length = n := by simpa using h.1
  rcases h.2 with ⟨h2, -⟩ | ⟨g', cap', cur, h2, hbg, hheap, hnc, hcm, hcs, htk⟩
  · cases h2
  simp only [Value.slice.injEq, Option.some.injEq, Addr.mk.injEq, and_true, true_and] at h2
  obtain ⟨rfl, rfl⟩ := h2
  rw [Nat.mul_one] at hcs htk
  unfold maxLen at hcm
  obtain ⟨cl, hcl⟩ : ∃ cl, cur = cl.toArray := ⟨cur.toList, by simp⟩
  subst hcl
  have hcl : cl.length = cap := by simpa using hcs
  have htk' : cl.take n = xs := by simpa using htk
  have HH := Lib.hid hheap
  have HTK := Lib.hid htk'
  have HCL := Lib.hid hcl
  have HLEN := Lib.hid hlen
  have HX := Lib.hid hx
  have HG := Lib.hid hg
  have HXS := Lib.hid hxs
  have HZV := Lib.hid hzv
  have HOWN := Lib.hid h
  have HBG := Lib.hid hbg
  clear h hheap hcs htk htk' hcl hlen hx hg hxs hbg hzv
  have d1 : ¬ cap = i := by omega
  by_cases hjn' : j = n
  · subst hjn'
    have d2 : decide ((i : Int) + 1 < (j : Int)) = true := decide_eq_true (by omega)
    have d3 : decide (i + 1 < j) = true := decide_eq_true (by omega)
    have e1 : ((i : Int) == (j : Int)) = false := beq_eq_false_iff_ne.2 (by omega)
    have e2 : ((j : Int) == (j : Int)) = true := beq_self_eq_true _
    have d4 : ¬ cap = i + 1 := by omega
    have HP := Lib.hid (show w.ownsRow B 104 1 (.slice (some ⟨g, 0, none⟩) i cap) i (xs.take i) from ⟨by rw [List.length_take, HLEN.out]; omega, .inr ⟨g, cap, cl.toArray, rfl, HBG.out, HH.out, by omega, hcm, by simpa using HCL.out, by rw [← HTK.out, List.take_take]; simp; omega⟩⟩)
    go_enter Tryz.func108, Tryz.ntmps108
    go_wp2_with (at_builtin; first
      | (refine wpList_append_here rfl (.tmp 32) (.tmp 33) 80 rfl B 104 i1 Tryz.underlying80 hi1 hy1 g i cap (xs.take i) rfl HP.out ad c0 x rfl HX.out hxo (by omega) ?_
         intro w2 hown2 ho2
         have HW2 := Lib.hid hown2
         have HO2 := Lib.hid ho2
         obtain ⟨cur2, hcur2, hcl2, htk2⟩ : ∃ cur2 : List Value, w2.heap[g]? = some (.cells cur2.toArray 104 (0, 0)) ∧ cur2.length = cap ∧ cur2.take (i + 1) = xs.take i ++ [x] := by
           rcases hown2.2 with ⟨h2, -⟩ | ⟨g', cap', cur', h2, -, h3, -, -, h4, h5⟩
           · cases h2
           · simp only [Value.slice.injEq, Option.some.injEq, Addr.mk.injEq, and_true, true_and] at h2
             obtain ⟨rfl, rfl⟩ := h2
             exact ⟨cur'.toList, h3, by simpa using h4, by simpa using h5⟩
         have HC2 := Lib.hid hcur2
         have HL2 := Lib.hid hcl2
         have HT2 := Lib.hid htk2
         obtain ⟨w3, hclr, hcur3, ho3⟩ := run_clear_row w2 80 0 104 (.pointer none) Tryz.underlying80 HZV.out rfl rfl g (i + 1) (j - (i + 1)) (cap - (i + 1)) (by omega) cur2 _ hcur2 (by omega)
         have HC3 := Lib.hid hcur3
         have HO3 := Lib.hid ho3
         clear hown2 ho2 hcur2 hcl2 htk2 hcur3 ho3))
    go_ret
    have hm : i + 1 + (j - j) = i + 1 := by omega
    have hd : xs.drop j = [] := List.drop_eq_nil_of_le (by have := HLEN.out; omega)
    rw [hm, hd]
    refine ⟨rfl, ⟨by simp only [List.length_append, List.length_take, List.length_cons, List.length_nil]; have := HLEN.out; omega, .inr ⟨g, cap, _, rfl, HBG.out, HC3.out, by omega, hcm, ?_, ?_⟩⟩, OnlyS.trans HO2.out HO3.out fun _ _ h => h⟩
    · have := HL2.out
      rw [List.size_toArray, splice_length _ _ _ (by rw [List.length_replicate]; omega)]
      omega
    · have h1 := HL2.out
      have h2 := HT2.out
      rw [Nat.mul_one, ← h2]
      show (splice cur2 (i + 1) _).take (i + 1) = _
      unfold splice
      rw [List.take_append_of_le_length (by rw [List.length_take]; omega), List.take_take, Nat.min_self]
  · have hlt : j < n := by omega
    have d2 : ¬ cap = j := by omega
    have d3 : ¬ cap = i + 1 := by omega
    have d4 : ¬ cap = i + 1 + (n - j) := by omega
    have e1 : ((i : Int) == (j : Int)) = false := beq_eq_false_iff_ne.2 (by omega)
    have e2 : ((j : Int) == (n : Int)) = false := beq_eq_false_iff_ne.2 (by omega)
    have HXD := Lib.hid (Ext.drew w)
    have hh0 : w.drew.heap[g]? = some (.cells cl.toArray 104 (0, 0)) := HH.out
    obtain ⟨w2, hcp1, hc1, ho1⟩ := run_copy_here w.drew 80 80 3 104 Tryz.underlying80 hsz g i (i + 1 + (n - j) - i) (cap - i) ad 1 c0 cl _ hh0 [x] (by show 1 = min 1 _; omega) (fun k v hk => by
      cases k with
      | zero => rw [add_zero]; exact (HX.out).trans hk
      | succ k => simp at hk) (by have := HCL.out; simp only [List.length_cons, List.length_nil]; omega) (fun v hv => by rw [List.mem_singleton] at hv; rw [hv]; exact hxo)
    have hl1 : (splice cl i [x]).length = cap := by rw [splice_length _ _ _ (by have := HCL.out; simp only [List.length_cons, List.length_nil]; omega)]; exact HCL.out
    have hxd : ∀ k v, (xs.drop j)[k]? = some v → w2.cell? ((⟨g, j, none⟩ : Addr).add k) = some v := fun k v hk => by
      rw [add_at]
      unfold World.cell?
      rw [hc1]
      rw [List.getElem?_drop, ← HTK.out, List.getElem?_take] at hk
      split at hk
      · show (splice cl i [x]).toArray[j + k]? = some v
        rw [List.getElem?_toArray, splice_at _ _ _ _ (by simp only [List.length_cons, List.length_nil]; omega) (by have := HCL.out; omega)]
        exact hk
      · cases hk
    obtain ⟨w3, hcp2, hc2, ho2⟩ := run_copy_here w2.drew 80 80 3 104 Tryz.underlying80 hsz g (i + 1) (n - j) (cap - (i + 1)) ⟨g, j, none⟩ (n - j) (cap - j) _ _ (show w2.drew.heap[g]? = _ from hc1) (xs.drop j) (by rw [List.length_drop, HLEN.out]; show n - j = min _ _; omega) (fun k v hk => hxd k v hk) (by rw [hl1, List.length_drop, HLEN.out]; omega) (fun v hv => HXS.out v (List.mem_of_mem_drop hv))
    have hl2 : (splice (splice cl i [x]) (i + 1) (xs.drop j)).length = cap := by rw [splice_length _ _ _ (by rw [hl1, List.length_drop, HLEN.out]; omega)]; exact hl1
    obtain ⟨w4, hclr, hc3, ho3⟩ := run_clear_row w3 80 0 104 (.pointer none) Tryz.underlying80 HZV.out rfl rfl g (i + 1 + (n - j)) (n - (i + 1 + (n - j))) (cap - (i + 1 + (n - j))) (by omega) _ _ hc2 (by rw [hl2]; omega)
    have hl3 : (splice (splice (splice cl i [x]) (i + 1) (xs.drop j)) (i + 1 + (n - j)) (List.replicate (n - (i + 1 + (n - j))) (.pointer none))).length = cap := by rw [splice_length _ _ _ (by rw [hl2, List.length_replicate]; omega)]; exact hl2
    have HC3 := Lib.hid hc3
    have HL3 := Lib.hid hl3
    have HO1 := Lib.hid ho1
    have HO2 := Lib.hid ho2
    have HO3 := Lib.hid ho3
    rw [List.length_drop, HLEN.out] at hcp2
    clear hc3 hl3 hc2 hl2 hc1 hl1 hxd hh0 ho1 ho2 ho3
    go_enter Tryz.func108, Tryz.ntmps108
    go_wp2_with fail
    go_region
    go_wp2_with fail
    go_region
    go_wp2_with fail
    go_ret
    have hnum : n - (i + 1 + (n - j)) = j - i - 1 := by omega
    have hmid := splice_mid cl xs n i j x (.pointer none) (by have := HCL.out; omega) HTK.out hij hlt
    have hC3 := HC3.out
    rw [hnum] at hC3
    have hL3 := HL3.out
    rw [hnum] at hL3
    refine ⟨rfl, ⟨by simp only [List.length_append, List.length_take, List.length_cons, List.length_drop]; have := HLEN.out; omega, .inr ⟨g, cap, _, rfl, HBG.out, hC3, by omega, hcm, ?_, ?_⟩⟩, ?_⟩
    · rw [List.size_toArray, hL3, Nat.mul_one]
    · rw [Nat.mul_one]
      exact hmid
    · exact OnlyS.trans (OnlyS.of_ext HXD.out) (OnlyS.trans HO1.out (OnlyS.trans (OnlyS.of_ext (Ext.drew w2)) (OnlyS.trans HO2.out HO3.out fun _ _ h => h) fun _ _ h => h) fun _ _ h => h) fun _ _ h => h
end Go.Proofs.YtaoegcakefodaaaGreat

namespace Go.Proofs.YtaoegcakefodaaaGreat
open Go.RowKit Go.BigFrame
theorem FitB.sub {l l' : List (List V)} (h : FitB l) (hl : l'.length ≤ l.length) (hm : ∀ r ∈ l', r ∈ l) : FitB l' := ⟨Nat.le_trans hl h.1, fun r hr => h.2 r (hm r hr)⟩
theorem FitB.sorted {l : List (List V)} (h : FitB l) (ks : List Ky) : FitB (sortS ks l) := h.sub (Nat.le_of_eq (sortS_length ks l)) fun _ hr => (sortS_perm ks l).mem_iff.1 hr
theorem FitB.cost {l : List (List V)} (h : FitB l) : ∀ r ∈ l, rowCost r ≤ 1000000000 := fun r hr => by
  obtain ⟨h1, h2⟩ := h.2 r hr
  have := rowCost_le 400 5000 h1 fun v hv => (h2 v hv).2
  omega
theorem own_some {base n : Nat} {e : TypeId} {w : World} {v : Value} {xs : List Value} (h : w.ownsRow base e 1 v n xs) (hn : 0 < n) : ∃ g c, v = .slice (some ⟨g, 0, none⟩) n c ∧ n ≤ c ∧ c ≤ maxLen ∧ base ≤ g ∧ g < w.heap.size := by
  rcases h.2 with ⟨-, h2⟩ | ⟨g, cap, cur, rfl, h2, h3, h4, h5, -⟩
  · omega
  · exact ⟨g, cap, rfl, h4, h5, h2, (Array.getElem?_eq_some_iff.1 h3).1⟩
theorem rd_part18 {base n g c : Nat} {e : TypeId} {w : World} {xs : List Value} (h : w.ownsRow base e 1 (.slice (some ⟨g, 0, none⟩) n c) n xs) {A T : Nat} (hA : A ≤ T) (hT : T ≤ n) : RdV w (.slice (some ⟨g, A, none⟩) (T - A) (c - A)) ((xs.drop A).take (T - A)) := by
  obtain ⟨a, c', e1, e2, e3⟩ := own_shapeP h
  simp only [Value.slice.injEq] at e1
  obtain ⟨-, -, rfl⟩ := e1
  have hl : xs.length = n := by simpa using h.1
  have hlen : ((xs.drop A).take (T - A)).length = T - A := by rw [List.length_take, List.length_drop]; omega
  refine .inr ⟨⟨g, A, none⟩, c - A, by rw [hlen], by omega, by omega, fun i u hu => ?_⟩
  rw [List.getElem?_take] at hu
  split at hu
  · rw [List.getElem?_drop] at hu
    rw [add_at]
    rw [h.cellAt (A + i) (by omega)]
    exact hu
  · cases hu
structure Srt (B p q t : Nat) (ks : List Ky) (K : Value) (s0 : St) (most base : Int) (O : Nat → Prop) (w : World) (s : St) (held : Int) (R : Value) (rs : List Run) : Prop where
  sto : PSto O w p s
  ok : okS s
  pur : ∃ pk, PurS w q ⟨most, base + held, pk⟩
  mem : WkM B w p q t K held R rs
  qB : q < B
  oq : ¬ O q
  ow : ∀ b, O b → ¬ WkO t R rs b
  dsk : OnD ks s0 s rs
  may : ∀ r ∈ rs, ∀ x ∈ r.y, mayR x = 0
  h0 : 0 ≤ held
  wB : B ≤ w.heap.size
theorem WkM.other {B : Nat} {Y : Nat → Prop} {w w' : World} {p q t : Nat} {K : Value} {held held' : Int} {R : Value} {rs : List Run} (h : WkM B w p q t K held R rs) (ho : OnlyS Y w w') (hy : ∀ b, Y b → b = t ∨ ¬ WkO t R rs b) (hb : Wk5 w' t p q K held' R) : WkM B w' p q t K held' R rs :=
  ⟨hb, own_others h.row ho fun k hk h2 => by
    rcases hy k h2 with h3 | h3
    · exact h.rt (h3 ▸ hk)
    · exact h3 (.inr (.inl hk)), h.fls.keep ho fun r hr b h2 h3 => by
    rcases hy b h2 with h4 | h4
    · exact (h.ft r hr b h3).2.1 h4
    · exact h4 (.inr (.inr ⟨r, hr, h3⟩)), h.tB, h.rt, h.ft⟩
def Joined18 (B p q t : Nat) (ks : List Ky) (K : Value) (s0 : St) (most base : Int) (a g b : List Run) (O : Nat → Prop) (w : World) (e : Ending) (w' : World) : Prop :=
  ∃ (E : Int) (O' : Nat → Prop) (s' : St) (held' : Int) (R' : Value) (rs' : List Run), e = .returned (.int .i64 E) ∧ Srt B p q t ks K s0 most base O' w' s' held' R' rs' ∧ OnlyS (fun x => O x ∨ x = q ∨ B ≤ x) w w' ∧ (∀ x, O' x → O x ∨ w.heap.size ≤ x) ∧
    ((E = 0 ∧ held' = 0 ∧ ∃ r', rs' = a ++ (r' :: b) ∧ r'.y = g.flatMap Run.y) ∨
     (E = 5 ∧ rs' = a ++ (g ++ b) ∧ ∀ gr, (∀ r ∈ g, ∀ x ∈ r.y, rowCost x ≤ gr) → most - base < g.length * gr) ∨
     (E = 4 ∧ rs' = a ++ (g ++ b) ∧ NoRoom s0 ((a ++ (g ++ b)).flatMap Run.y) (a ++ (g ++ b)).length))
section
variable {B p q t : Nat} {ks : List Ky} {K : Value} {s0 : St} {most base : Int} {O : Nat → Prop} {w : World} {s : St} {held : Int} {R : Value} {rs : List Run}
theorem Srt.same (h : Srt B p q t ks K s0 most base O w s held R rs) {O' Y : Nat → Prop} {w' : World} {held' : Int} (hp : PSto O' w' p s) (hO : ∀ b, O' b → O b ∨ w.heap.size ≤ b) (hpu : ∃ pk, PurS w' q ⟨most, base + held', pk⟩) (ho : OnlyS Y w w') (hy : ∀ b, Y b → b = t ∨ ¬ WkO t R rs b) (hb : Wk5 w' t p q K held' R) (h0 : 0 ≤ held') : Srt B p q t ks K s0 most base O' w' s held' R rs :=
  ⟨hp, h.ok, hpu, h.mem.other ho hy hb, h.qB, fun h2 => by
    rcases hO q h2 with h3 | h3
    · exact h.oq h3
    · have := h.qB
      have := h.wB
      omega, fun b h2 h3 => by
    rcases hO b h2 with h4 | h4
    · exact h.ow b h4 h3
    · have := (h.mem.lt h3).2
      omega, h.dsk, h.may, h0, Nat.le_trans h.wB ho.size⟩
theorem Srt.joined {a g b : List Run} {rb N rc : Nat} (h : Srt B p q t ks K s0 most base O w s held (.slice (some ⟨rb, 0, none⟩) N rc) (a ++ (g ++ b))) {w' : World} {O' : Nat → Prop} {s' : St} {N' : Nat} {r' : Run} (hp : PSto O' w' p s') (hok : okS s') (hO : ∀ x, O' x → O x ∨ w.heap.size ≤ x) (hpu : ∃ pk, PurS w' q ⟨most, base + 0, pk⟩)
    (ho : OnlyS (fun x => O x ∨ x = q ∨ x = t ∨ x = rb ∨ ∃ r ∈ g, r.F x) w w') (hb : Wk5 w' t p q K 0 (.slice (some ⟨rb, 0, none⟩) N' rc)) (hrow : w'.ownsRow B 104 1 (.slice (some ⟨rb, 0, none⟩) N' rc) (a ++ (r' :: b)).length ((a ++ (r' :: b)).map ptrR)) (hfil : Fil r'.F w' r'.f p r'.ids r'.y.length)
    (hF : ∀ x, r'.F x → w.heap.size ≤ x ∧ ¬ O' x) (hdsk : OnD ks s0 s' (a ++ (r' :: b))) (hmay : ∀ x ∈ r'.y, mayR x = 0) : Srt B p q t ks K s0 most base O' w' s' 0 (.slice (some ⟨rb, 0, none⟩) N' rc) (a ++ (r' :: b)) := by
  have hin : ∀ r, r ∈ a ∨ r ∈ b → r ∈ a ++ (g ++ b) := fun r hr => by
    rcases hr with hr | hr
    · exact List.mem_append.2 (.inl hr)
    · exact List.mem_append.2 (.inr (List.mem_append.2 (.inr hr)))
  have hrblt : rb < w.heap.size := (h.mem.row.lt rb rfl).2
  have htlt := h.mem.blk.lt
  have hpw : (a ++ (g ++ b)).Pairwise fun x y => ∀ c, x.F c → ¬ y.F c := h.mem.fls.ff
  obtain ⟨p1, p2, p3⟩ := List.pairwise_append.1 hpw
  obtain ⟨p4, p5, p6⟩ := List.pairwise_append.1 p2
  have hold : ∀ r, r ∈ a ∨ r ∈ b → ∀ x, (O x ∨ x = q ∨ x = t ∨ x = rb ∨ ∃ r ∈ g, r.F x) → ¬ r.F x := fun r hr x hx hF => by
    have hr2 := hin r hr
    have h1 := h.mem.ft r hr2 x hF
    rcases hx with hx | rfl | rfl | rfl | ⟨r2, hr3, hx⟩
    · exact h.ow x hx (.inr (.inr ⟨r, hr2, hF⟩))
    · have := h.qB; omega
    · exact h1.2.1 rfl
    · exact h1.2.2 rfl
    · rcases hr with hr | hr
      · exact p3 r hr r2 (List.mem_append.2 (.inl hr3)) x hF hx
      · exact p6 r2 hr3 r hr x hx hF
  have hlt : ∀ r, r ∈ a ∨ r ∈ b → ∀ x, r.F x → x < w.heap.size := fun r hr x hx => (h.mem.fls.fil r (hin r hr)).lt hx
  have hcases : ∀ r, r ∈ a ++ (r' :: b) → r = r' ∨ (r ∈ a ∨ r ∈ b) := fun r hr => by
    rcases List.mem_append.1 hr with hr | hr
    · exact .inr (.inl hr)
    · rcases List.mem_cons.1 hr with hr | hr
      · exact .inl hr
      · exact .inr (.inr hr)
  have hmem : WkM B w' p q t K 0 (.slice (some ⟨rb, 0, none⟩) N' rc) (a ++ (r' :: b)) := by
    refine ⟨hb, hrow, ⟨fun r hr => ?_, ?_⟩, h.mem.tB, fun e => h.mem.rt (by rw [← e]; rfl), fun r hr x hx => ?_⟩
    · rcases hcases r hr with rfl | hr
      · exact hfil
      · exact (h.mem.fls.fil r (hin r hr)).keep ho (hold r hr)
    · refine List.pairwise_append.2 ⟨p1, List.pairwise_cons.2 ⟨fun r hr x h1 h2 => ?_, p5⟩, fun r hr r2 hr2 x h1 h2 => ?_⟩
      · have := hlt r (.inr hr) x h2
        have := (hF x h1).1
        omega
      · rcases List.mem_cons.1 hr2 with rfl | hr2
        · have := hlt r (.inl hr) x h1
          have := (hF x h2).1
          omega
        · exact p3 r hr r2 (List.mem_append.2 (.inr hr2)) x h1 h2
    · rcases hcases r hr with rfl | hr
      · have h1 := (hF x hx).1
        have := h.wB
        refine ⟨by omega, by omega, fun e => ?_⟩
        have e2 : rb = x := Option.some.inj e
        omega
      · have h1 := h.mem.ft r (hin r hr) x hx
        exact ⟨h1.1, h1.2.1, fun e => h1.2.2 (by rw [← e]; rfl)⟩
  refine ⟨hp, hok, hpu, hmem, h.qB, fun h2 => ?_, fun x hx h2 => ?_, hdsk, fun r hr => ?_, Int.le_refl _, Nat.le_trans h.wB ho.size⟩
  · rcases hO q h2 with h3 | h3
    · exact h.oq h3
    · have := h.qB
      have := h.wB
      omega
  · rcases h2 with rfl | h2 | ⟨r, hr, h2⟩
    · rcases hO x hx with h3 | h3
      · exact h.ow x h3 (.inl rfl)
      · omega
    · have e2 : rb = x := Option.some.inj h2
      rcases hO x hx with h3 | h3
      · exact h.ow x h3 (.inr (.inl (by rw [← e2]; rfl)))
      · omega
    · rcases hcases r hr with rfl | hr
      · exact (hF x h2).2 hx
      · rcases hO x hx with h3 | h3
        · exact h.ow x h3 (.inr (.inr ⟨r, hin r hr, h2⟩))
        · have := hlt r hr x h2
          omega
  · rcases hcases r hr with rfl | hr
    · exact hmay
    · exact h.may r (hin r hr)
theorem Joined18.no {a g b : List Run} (h : Srt B p q t ks K s0 most base O w s 0 R (a ++ (g ++ b))) {E : Int} {O' : Nat → Prop} {w' : World} {held' : Int} (hp : PSto O' w' p s) (hO : ∀ b, O' b → O b ∨ w.heap.size ≤ b) (hpu : ∃ pk, PurS w' q ⟨most, base + held', pk⟩) (ho : OnlyS (fun b => O b ∨ b = q ∨ b = t) w w') (hb : Wk5 w' t p q K held' R) (h0 : 0 ≤ held')
    (hE : (E = 5 ∧ ∀ gr, (∀ r ∈ g, ∀ x ∈ r.y, rowCost x ≤ gr) → most - base < g.length * gr) ∨ (E = 4 ∧ NoRoom s0 ((a ++ (g ++ b)).flatMap Run.y) (a ++ (g ++ b)).length)) : Joined18 B p q t ks K s0 most base a g b O w (.returned (.int .i64 E)) w' := by
  refine ⟨E, O', s, held', R, _, rfl, h.same hp hO hpu ho (fun b hb => ?_) hb h0, ho.mono fun b _ hb => ?_, hO, .inr ?_⟩
  · rcases hb with hb | rfl | hb
    · exact .inr (h.ow b hb)
    · exact .inr fun h2 => by
        have := (h.mem.lt h2).1
        have := h.qB
        omega
    · exact .inl hb
  · rcases hb with hb | hb | rfl
    · exact .inl hb
    · exact .inr (.inl hb)
    · exact .inr (.inr h.mem.tB)
  · rcases hE with ⟨h1, h2⟩ | ⟨h1, h2⟩
    · exact .inl ⟨h1, rfl, h2⟩
    · exact .inr ⟨h1, rfl, h2⟩
theorem Srt.bounds (h : Srt B p q t ks K s0 most base O w s held R rs) : base + held ≤ most ∧ most ≤ 1048576 ∧ 0 ≤ base + held := by
  obtain ⟨pk, hp⟩ := h.pur
  exact ⟨hp.ok.n1, hp.ok.m1, hp.ok.n0⟩
end
end Go.Proofs.YtaoegcakefodaaaGreat

namespace Go.Proofs.YtaoegcakefodaaaGreat
open Go.RowKit Go.BigFrame
set_option maxRecDepth 100000 in
set_option maxHeartbeats 8000000 in
theorem pJoin18_any (B p q t : Nat) (ks : List Ky) (K : Value) (s0 : St) (most base : Int) (O : Nat → Prop) (w : World) (s : St) (R : Value) (a g b : List Run) (hg : g ≠ []) (hgl : g.length ≤ 16) (h : Srt B p q t ks K s0 most base O w s 0 R (a ++ (g ++ b)))
    (hfit : FitB ((a ++ (g ++ b)).flatMap Run.y)) (hK : ∀ W, OnlyS (fun x => O x ∨ x = q ∨ B ≤ x) w W → RdKs W K ks) (hk : ks.length ≤ 1000000) (hal : (a ++ (g ++ b)).length ≤ 1000) (A T : Nat) (hA : A = a.length) (hT : T = a.length + g.length) :
    Calls Tryz.prog 85 #[.pointer (some ⟨t, 0, none⟩), .int .i64 A, .int .i64 T] w (Joined18 B p q t ks K s0 most base a g b O w) := by
  have hgp : 0 < g.length := List.length_pos_iff.2 hg
  obtain ⟨N, hN⟩ : ∃ N, (a ++ (g ++ b)).length = N := ⟨_, rfl⟩
  have hTN : T ≤ N := by rw [← hN, List.length_append, List.length_append]; omega
  have hAT : A < T := by omega
  have hrow := h.mem.row
  rw [hN] at hrow hal
  obtain ⟨rb, rc, rfl, hrc1, hrc2, hrb1, hrb2⟩ := own_some hrow (by omega)
  unfold maxLen at hrc2
  have c4 := h.mem.blk.cell 4 _ rfl
  have c0 := h.mem.blk.cell 0 _ rfl
  have dA : ¬ rc = A := by omega
  have HAL := Lib.hid hA
  have HTL := Lib.hid hT
  have HNL := Lib.hid hN
  have HSR := Lib.hid h
  have HROW := Lib.hid hrow
  have HFIT := Lib.hid hfit
  have HK := Lib.hid hK
  have HGL := Lib.hid hgl
  have HG := Lib.hid hg
  clear hA hT hN h hrow hfit hK hgl hg
  by_cases h1 : T - A = 1
  · have e1 : (((T - A : Nat) : Int) == 1) = true := by rw [h1]; rfl
    have e2 : ((T - A : Nat) == 1) = true := by rw [h1]; rfl
    have H1 := Lib.hid h1
    clear h1
    go_enter_defers Tryz.func85, Tryz.ntmps85
    go_wp2_with fail
    refine ⟨_, results_tmp rfl _ _ _, ?_⟩
    have hg1 : ∃ r, g = [r] := List.length_eq_one_iff.1 (by have := H1.out; have := HAL.out; have := HTL.out; omega)
    obtain ⟨r, rfl⟩ := hg1
    exact ⟨0, O, s, 0, _, _, rfl, HSR.out, OnlyS.refl _ _, fun x hx => .inl hx, .inl ⟨rfl, rfl, r, rfl, by simp⟩⟩
  · have e1 : (((T - A : Nat) : Int) == 1) = false := beq_eq_false_iff_ne.2 (by omega)
    have e2 : ((T - A : Nat) == 1) = false := beq_eq_false_iff_ne.2 (by omega)
    have hmf : ∀ (fn : Fn) (first cap : Array Value) (w : World), (Instr.makeFunc fn first cap).run Tryz.prog w = .ok (.func fn first cap) w := fun _ _ _ _ => rfl
    have HNEW := Lib.hid (pNew17_any p w)
    go_enter_defers Tryz.func85, Tryz.ntmps85
    go_wp2_with fail
    refine HNEW.out.mono ?_
    rintro e w1 ⟨⟨f, X, rfl, hW, hXn⟩, hx1⟩
    have HW1 := Lib.hid hW
    have HXN := Lib.hid hXn
    have HX1 := Lib.hid hx1
    clear hW hXn hx1 HNEW
    go_wp2_with fail
    have hsr := HSR.out
    have hAL := HAL.out
    have hTL := HTL.out
    have hgs : ∀ r ∈ g, r ∈ a ++ (g ++ b) := fun r hr => List.mem_append.2 (.inr (List.mem_append.2 (.inl hr)))
    have hysub : ∀ x ∈ g.flatMap Run.y, x ∈ (a ++ (g ++ b)).flatMap Run.y := fun x hx => by
      obtain ⟨r, hr, hx⟩ := List.mem_flatMap.1 hx
      exact List.mem_flatMap.2 ⟨r, hgs r hr, hx⟩
    have hflat : (a ++ (g ++ b)).flatMap Run.y = a.flatMap Run.y ++ (g.flatMap Run.y ++ b.flatMap Run.y) := by rw [List.flatMap_append, List.flatMap_append]
    have hylen : (g.flatMap Run.y).length ≤ ((a ++ (g ++ b)).flatMap Run.y).length := by rw [hflat, List.length_append, List.length_append]; omega
    have hfity : FitB (g.flatMap Run.y) := HFIT.out.sub hylen hysub
    have hfitr : ∀ r ∈ g, FitB r.y := fun r hr => hfity.sub (by
      obtain ⟨i, hi, rfl⟩ := List.mem_iff_getElem.1 hr
      exact List.Sublist.length_le (List.sublist_flatten_of_mem (List.mem_map.2 ⟨g[i], List.getElem_mem hi, rfl⟩))) fun x hx => List.mem_flatMap.2 ⟨r, hr, hx⟩
    have hmay : ∀ x ∈ g.flatMap Run.y, mayR x = 0 := fun x hx => by
      obtain ⟨r, hr, hx⟩ := List.mem_flatMap.1 hx
      exact hsr.may r (hgs r hr) x hx
    obtain ⟨xs, hxs⟩ : ∃ xs, xs = sortS ks (g.flatMap Run.y) := ⟨_, rfl⟩
    have hxm : xs = LosPure.mergeL (cmpR ks) (g.map fun r => sortS ks r.y) := by
      have e : (g.map fun r => sortS ks r.y) = (g.map Run.y).map (sortS ks) := by rw [List.map_map]; rfl
      rw [e, mergeL_sortS, hxs]
      rfl
    have hfitx : FitB xs := by rw [hxs]; exact hfity.sorted ks
    have hmayx : ∀ x ∈ xs, mayR x = 0 := fun x hx => hmay x ((sortS_perm ks _).mem_iff.1 (hxs ▸ hx))
    have hsink := sink_writer p ks g xs s f hsr.ok (fun r hr => hsr.dsk.hold r (hgs r hr)) hfitx hmayx
    have hXf : ∀ x, X x → x < w1.heap.size := fun x hx => HW1.out.lt hx
    have hqw : q < w.heap.size := by have := hsr.qB; have := hsr.wB; omega
    have htw : t < w.heap.size := hsr.mem.blk.lt
    have hsz1 := HX1.out.size
    have hat := atW_nil s
    have HMG := Lib.hid (pMerge18_any p q t ks K (.slice (some ⟨rb, 0, none⟩) N rc) (.slice (some ⟨rb, A, none⟩) (T - A) (rc - A)) g xs most base _ _ _ _ _ _ _ _ O X w1 hsink
      (show PSto O w1 p (storeK s (rowsB []) (fullK [])) by rw [hat.2]; exact hsr.sto.mono HX1.out)
      (show Wri X w1 f p (atW s []) ∧ fullK [] + usedS s ≤ s.length by
        rw [hat.1]
        refine ⟨HW1.out, ?_⟩
        have := hsr.dsk.upon.fits
        show 0 + usedS s ≤ s.length
        omega)
      hXf (fun x hO hX => by have := hsr.sto.lt x hO; have := HXN.out x hX; omega)
      (by obtain ⟨pk, hp⟩ := hsr.pur; exact ⟨pk, by rw [Int.add_zero] at hp; exact hp.ext HX1.out⟩)
      (hsr.mem.blk.ext HX1.out)
      ((hsr.mem.fls.sub (List.sublist_append_of_sublist_right (List.sublist_append_left g b))).keep (OnlyS.of_ext (X := fun _ => False) HX1.out) fun _ _ _ h => h.elim)
      (by have := hsr.qB; have := hsr.mem.tB; omega) ⟨hsr.oq, fun h2 => hsr.ow t h2 (.inl rfl)⟩ ⟨fun h2 => by have := HXN.out q h2; omega, fun h2 => by have := HXN.out t h2; omega⟩
      (fun r hr x hx => by
        have h1 := hsr.mem.ft r (hgs r hr) x hx
        have h2 := (hsr.mem.fls.fil r (hgs r hr)).lt hx
        exact ⟨fun h3 => hsr.ow x h3 (.inr (.inr ⟨r, hgs r hr, hx⟩)), fun h3 => by have := HXN.out x h3; omega, by have := hsr.qB; omega, h1.2.1⟩)
      (fun W ho => by
        have h1 := rd_part18 (A := A) (T := T) (own_others (owns_extS HROW.out HX1.out) ho fun x hx h2 => by
          obtain rfl : rb = x := Option.some.inj hx
          rcases h2 with h2 | h2 | h2 | h2
          · exact hsr.ow rb h2 (.inr (.inl rfl))
          · have := HXN.out rb h2; omega
          · have := hsr.qB; omega
          · exact hsr.mem.rt (by rw [← h2]; rfl)) (by omega) hTN
        have e : (((a ++ (g ++ b)).map ptrR).drop A).take (T - A) = g.map ptrR := by
          rw [List.map_append, List.drop_append_of_le_length (by rw [List.length_map]; omega), List.drop_of_length_le (by rw [List.length_map]; omega), List.nil_append, List.map_append, List.take_append_of_le_length (by rw [List.length_map]; omega), List.take_of_length_le (by rw [List.length_map]; omega)]
        rw [e] at h1
        exact h1)
      (fun W ho => HK.out W (OnlyS.trans (OnlyS.of_ext HX1.out) ho fun x hx h2 => by
        rcases h2 with h2 | h2 | h2 | h2
        · exact .inl h2
        · have := HXN.out x h2; omega
        · exact .inr (.inl h2)
        · exact .inr (.inr (by rw [h2]; exact hsr.mem.tB))))
      hk HGL.out (fun r hr => (hfitr r hr).sorted ks) (fun r hr => hsr.may r (hgs r hr)) (fun r hr => (hfitr r hr).cost) hxm)
    have HXS := Lib.hid hxs
    have HFX := Lib.hid hfitx
    have HMX := Lib.hid hmayx
    have HMY := Lib.hid hmay
    have HYL := Lib.hid hylen
    have HYS := Lib.hid hysub
    have HFLAT := Lib.hid hflat
    have HQW := Lib.hid hqw
    have HTW := Lib.hid htw
    have HGS := Lib.hid hgs
    clear hgs hysub hflat hylen hfity hfitr hmay hxs hxm hfitx hmayx hsink hXf hqw htw hat hAL hTL hsr
    refine HMG.out.mono ?_
    rintro e w2 ⟨E, O2, X2, s2, held2, rfl, hp2, hb2, hpu2, hh2, ho2, hO2, hX2, hOX2, hE⟩
    have HP2 := Lib.hid hp2
    have HB2 := Lib.hid hb2
    have HPU2 := Lib.hid hpu2
    have HON2 := Lib.hid ho2
    have HO2 := Lib.hid (show ∀ x, O2 x → O x ∨ w.heap.size ≤ x from fun x hx => (hO2 x hx).imp id fun h => by omega)
    have HX2 := Lib.hid (show ∀ x, X2 x → w.heap.size ≤ x ∧ x < w2.heap.size from fun x hx => ⟨(hX2 x hx).1.elim (HXN.out x) fun h => by omega, (hX2 x hx).2⟩)
    have HOX2 := Lib.hid hOX2
    have HON := Lib.hid (show OnlyS (fun x => O x ∨ x = q ∨ x = t) w w2 from OnlyS.trans (OnlyS.of_ext HX1.out) ho2 fun x hx h2 => by
      rcases h2 with h2 | h2 | h2
      · exact .inl h2
      · have := HXN.out x h2; omega
      · exact .inr h2)
    clear hp2 hb2 hpu2 ho2 hO2 hX2 hOX2 HMG
    have hcan : ∀ (O3 X3 : Nat → Prop) (s3 : St) (W3 : Wr17) (w3 : World) (E : Int), PSto O3 w3 p s3 → okS s3 → Wri X3 w3 f p W3 → (∀ x, O3 x → ¬ X3 x) → cancelW s3 W3 = s → (∀ x, O3 x → O x ∨ w.heap.size ≤ x) → (∀ x, X3 x → w.heap.size ≤ x) → (∃ pk, PurS w3 q ⟨most, base + held2, pk⟩) → Wk5 w3 t p q K held2 (.slice (some ⟨rb, 0, none⟩) N rc) → OnlyS (fun x => O x ∨ x = q ∨ x = t) w w3 →
        ((E = 5 ∧ ∀ gr, (∀ r ∈ g, ∀ x ∈ r.y, rowCost x ≤ gr) → most - base < g.length * gr) ∨ (E = 4 ∧ NoRoom s0 ((a ++ (g ++ b)).flatMap Run.y) (a ++ (g ++ b)).length)) →
        CallsD Tryz.prog 83 #[.pointer (some ⟨f, 0, none⟩)] .returning w3 fun e u' w' => u' = .returning ∧ e = .returned (.tuple #[]) ∧ Joined18 B p q t ks K s0 most base a g b O w (.returned (.int .i64 E)) w' := fun O3 X3 s3 W3 w3 E q1 q2 q3 q4 q5 q6 q7 q8 q9 q10 q11 => by
      refine (pCancelD17_any O3 X3 f p s3 W3 .returning w3 q1 q2 q3 q4).mono ?_
      rintro e u' w' ⟨rfl, O4, rfl, k1, k2, k3⟩
      have hsr := HSR.out
      have hq3 : ¬ (O3 q ∨ X3 q) := fun h2 => by
        have := HQW.out
        rcases h2 with h2 | h2
        · rcases q6 q h2 with h3 | h3
          · exact hsr.oq h3
          · omega
        · have := q7 q h2; omega
      have ht3 : ¬ (O3 t ∨ X3 t) := fun h2 => by
        have := HTW.out
        rcases h2 with h2 | h2
        · rcases q6 t h2 with h3 | h3
          · exact hsr.ow t h3 (.inl rfl)
          · omega
        · have := q7 t h2; omega
      obtain ⟨pk, hpk⟩ := q8
      refine ⟨rfl, rfl, Joined18.no hsr (by rw [← q5]; exact k1) (fun x hx => ?_) ⟨pk, hpk.onlyS k2 hq3⟩ (OnlyS.trans q10 k2 fun x hx h2 => ?_) (q9.onlyS k2 ht3) hh2 q11⟩
      · rcases k3 x hx with h2 | h2
        · exact q6 x h2
        · exact .inr (Nat.le_trans q10.size h2)
      · rcases h2 with h2 | h2
        · rcases q6 x h2 with h3 | h3
          · exact .inl h3
          · omega
        · have := q7 x h2; omega
    have HCAN := Lib.hid hcan
    clear hcan
    rcases hE with ⟨rfl, rfl, rfl, hz2⟩ | ⟨rfl, hmem, k, hkx, rfl, hz2⟩ | ⟨rfl, hbad, rfl, hz2⟩
    · have hfull : xs.take xs.length = xs := List.take_length
      simp only [hfull] at hz2 HP2
      have HZ2 := Lib.hid hz2.1
      have hok2 : okS (storeK s (rowsB xs) (fullK xs)) := storeK_ok HSR.out.ok _ _
      obtain ⟨hd1, hd2⟩ := doneW_at HMX.out hz2.2
      have HDN := Lib.hid (pDone17_any O2 X2 f p _ _ w2 HP2.out hok2 HZ2.out HOX2.out)
      generalize doneW (storeK s (rowsB xs) (fullK xs)) (atW s xs) = D at hd1 hd2 HDN
      obtain ⟨⟨DE, DI, DM⟩, DS⟩ := D
      simp only at hd1 hd2 HDN
      by_cases hroom : (s.length : Int) - usedS s < needS ((rowsB xs).length : Int)
      · have hpr := putR_all (s := s) HMX.out
        rw [if_pos hroom] at hpr
        rw [hpr] at hd1
        simp only [Prod.mk.injEq] at hd1
        obtain ⟨⟨-, rfl⟩, hds⟩ := hd1
        replace hds := hds.symm
        subst hds
        have HNR := Lib.hid (HSR.out.dsk.noRoomJ (y := g.flatMap Run.y) rfl (by
          rw [HFLAT.out, rowsB_append, rowsB_append, List.length_append, List.length_append]
          omega) (by rw [← HXS.out]; exact hroom))
        clear hz2 hfull hok2 hd2 hpr hroom
        go_wp2_with fail
        refine HDN.out.mono ?_
        rintro e w3 ⟨v, O3, X3, F, rfl, hp3, hW3, ho3, hO3, hX3, -, hOX3, -, ⟨-, rfl⟩ | ⟨h0, -⟩⟩
        · have HP3 := Lib.hid hp3
          have HW3 := Lib.hid hW3
          have HO3 := Lib.hid (show ∀ x, O3 x → O x ∨ w.heap.size ≤ x from fun x hx => by
            have := HON.out.size
            rcases hO3 x hx with h2 | h2
            · exact HO2.out x h2
            · exact .inr (by omega))
          have HX3 := Lib.hid (show ∀ x, X3 x → w.heap.size ≤ x from fun x hx => by
            have := HON.out.size
            rcases hX3 x hx with h2 | h2
            · exact (HX2.out x h2).1
            · omega)
          have HOX3 := Lib.hid hOX3
          have HON3 := Lib.hid (show OnlyS (fun x => O x ∨ x = q ∨ x = t) w w3 from OnlyS.trans HON.out ho3 fun x hx h2 => by
            rcases h2 with h2 | h2
            · rcases HO2.out x h2 with h3 | h3
              · exact .inl h3
              · omega
            · have := (HX2.out x h2).1; omega)
          have hno : ∀ x, (x = q ∨ x = t) → ¬ (O2 x ∨ X2 x) := fun x hx h2 => by
            have := HQW.out
            have := HTW.out
            rcases h2 with h2 | h2
            · rcases HO2.out x h2 with h3 | h3
              · rcases hx with rfl | rfl
                · exact HSR.out.oq h3
                · exact HSR.out.ow _ h3 (.inl rfl)
              · omega
            · have := (HX2.out x h2).1; omega
          obtain ⟨pk, hpk⟩ := HPU2.out
          have HPU3 := Lib.hid (hpk.onlyS ho3 (hno q (.inl rfl)))
          have HB3 := Lib.hid (show Wk5 w3 t p q K 0 _ from HB2.out.onlyS ho3 (hno t (.inr rfl)))
          clear hp3 hW3 ho3 hO3 hX3 hOX3 hno hpk
          go_wp2_with fail
          refine leaves_cons (f := 83) (args := #[.pointer (some ⟨f, 0, none⟩)]) (by simp) (by simp [go_sem]) ?_
          refine (HCAN.out O3 X3 s offW w3 4 HP3.out HSR.out.ok HW3.out HOX3.out rfl HO3.out HX3.out ⟨pk, HPU3.out⟩ HB3.out HON3.out (.inr ⟨rfl, HNR.out⟩)).mono ?_
          rintro e u' w' ⟨rfl, rfl, E', O', s', held', R', rs', he, hj⟩
          cases he
          exact ⟨_, results_tmp rfl _ _ _, _, O', s', held', R', rs', rfl, hj⟩
        · cases h0
      · have hpr := putR_all (s := s) HMX.out
        rw [if_neg hroom] at hpr
        have hpe : (putR s xs).1.2 = 0 := by rw [hpr]
        have hdm : DM = xs.length := hd2 hpe
        have hde : DE = 0 := by rw [hpr] at hd1; simp only [Prod.mk.injEq] at hd1; exact hd1.1.2
        have hdi : DI = (putR s xs).1.1 := by rw [← hd1]
        have hds : DS = (putR s xs).2 := by rw [← hd1]
        subst hde hdm hdi hds
        have HPE := Lib.hid hpe
        have HOK3 := Lib.hid (show okS (putR s xs).2 from by rw [hpr]; exact storeK_ok HSR.out.ok _ _)
        clear hz2 hfull hok2 hd1 hd2 hpr hroom hpe
        go_wp2_with fail
        refine HDN.out.mono ?_
        rintro e w3 ⟨v, O3, X3, F, rfl, hp3, hW3, ho3, hO3, hX3, hF3, hOX3, hFX3, ⟨h0, -⟩ | ⟨-, f3, rfl, hfil⟩⟩
        · exact absurd rfl h0
        have hszw := HON.out.size
        have HP3 := Lib.hid hp3
        have HW3 := Lib.hid hW3
        have HO3 := Lib.hid (show ∀ x, O3 x → O x ∨ w.heap.size ≤ x from fun x hx => by
          rcases hO3 x hx with h2 | h2
          · exact HO2.out x h2
          · exact .inr (by omega))
        have HX3 := Lib.hid (show ∀ x, X3 x → w.heap.size ≤ x from fun x hx => by
          rcases hX3 x hx with h2 | h2
          · exact (HX2.out x h2).1
          · omega)
        have HF3 := Lib.hid (show ∀ x, F x → w.heap.size ≤ x ∧ ¬ O3 x ∧ ¬ X3 x from fun x hx => ⟨by
          rcases hF3 x hx with h2 | h2
          · exact (HX2.out x h2).1
          · omega, (hFX3 x hx).2, (hFX3 x hx).1⟩)
        have HOX3 := Lib.hid hOX3
        have HFIL := Lib.hid hfil
        have HON3 := Lib.hid (show OnlyS (fun x => O x ∨ x = q ∨ x = t) w w3 from OnlyS.trans HON.out ho3 fun x hx h2 => by
          rcases h2 with h2 | h2
          · rcases HO2.out x h2 with h3 | h3
            · exact .inl h3
            · omega
          · have := (HX2.out x h2).1; omega)
        have hno : ∀ x, (x = q ∨ x = t) → ¬ (O2 x ∨ X2 x) := fun x hx h2 => by
          have := HQW.out
          have := HTW.out
          rcases h2 with h2 | h2
          · rcases HO2.out x h2 with h3 | h3
            · rcases hx with rfl | rfl
              · exact HSR.out.oq h3
              · exact HSR.out.ow _ h3 (.inl rfl)
            · omega
          · have := (HX2.out x h2).1; omega
        obtain ⟨pk, hpk⟩ := HPU2.out
        have hszw3 := HON3.out.size
        have HPU3 := Lib.hid (hpk.onlyS ho3 (hno q (.inl rfl)))
        have HB3 := Lib.hid (show Wk5 w3 t p q K 0 _ from HB2.out.onlyS ho3 (hno t (.inr rfl)))
        clear hp3 hW3 ho3 hO3 hX3 hOX3 hno hpk hF3 hFX3 hfil
        have hsr := HSR.out
        have hAL := HAL.out
        have hTL := HTL.out
        have hrbno : ∀ x, (O x ∨ x = q ∨ x = t) → x ≠ rb := fun x hx e => by
          subst e
          rcases hx with hx | hx | hx
          · exact hsr.ow x hx (.inr (.inl rfl))
          · have := hsr.qB; omega
          · exact hsr.mem.rt (by rw [← hx]; rfl)
        have HROW3 := Lib.hid (own_others HROW.out HON3.out fun x hx h2 => hrbno x h2 (Option.some.inj hx).symm)
        have hgroup : (((a ++ (g ++ b)).map ptrR).drop A).take (T - A) = g.map ptrR := by
          rw [List.map_append, List.drop_append_of_le_length (by rw [List.length_map]; omega), List.drop_of_length_le (by rw [List.length_map]; omega), List.nil_append, List.map_append, List.take_append_of_le_length (by rw [List.length_map]; omega), List.take_of_length_le (by rw [List.length_map]; omega)]
        have hrd3 := rd_part18 (A := A) (T := T) HROW3.out (by omega) hTN
        rw [hgroup] at hrd3
        have hgF : ∀ r ∈ g, ∀ x, r.F x → x < w.heap.size ∧ ¬ O x ∧ x ≠ q ∧ x ≠ t ∧ x ≠ rb := fun r hr x hx => by
          have h1 := hsr.mem.ft r (HGS.out r hr) x hx
          have h2 := (hsr.mem.fls.fil r (HGS.out r hr)).lt hx
          exact ⟨h2, fun h3 => hsr.ow x h3 (.inr (.inr ⟨r, HGS.out r hr, hx⟩)), by have := hsr.qB; omega, h1.2.1, fun e => h1.2.2 (by rw [e]; rfl)⟩
        have hO3g : ∀ x, O3 x → ∀ r ∈ g, ¬ r.F x := fun x hx r hr h2 => by
          have h3 := hgF r hr x h2
          rcases HO3.out x hx with h4 | h4
          · exact h3.2.1 h4
          · omega
        have HD := Lib.hid (pDropRuns18_any (.pointer (some ⟨t, 0, none⟩)) O3 p _ _ g w3 HP3.out HOK3.out hrd3 (fun k hk => by
          obtain rfl : rb = k := Option.some.inj hk
          exact ⟨fun h2 => by
            rcases HO3.out rb h2 with h3 | h3
            · exact hsr.ow rb h3 (.inr (.inl rfl))
            · omega, fun r hr h2 => (hgF r hr rb h2).2.2.2.2 rfl⟩) ((hsr.mem.fls.sub (List.sublist_append_of_sublist_right (List.sublist_append_left g b))).keep HON3.out fun r hr x h2 h3 => by
          have h4 := hgF r hr x h3
          rcases h2 with h2 | h2 | h2
          · exact h4.2.1 h2
          · exact h4.2.2.1 h2
          · exact h4.2.2.2.1 h2) hO3g)
        have HGF := Lib.hid hgF
        have HRBN := Lib.hid hrbno
        clear hrd3 hgroup hgF hO3g hrbno hsr hAL hTL HDN
        go_wp2_with fail
        refine HD.out.mono ?_
        rintro e w4 ⟨O4, rfl, hp4, ho4, hO4⟩
        have hsz4 := ho4.size
        have HP4 := Lib.hid hp4
        have HON4 := Lib.hid (show OnlyS (fun x => O x ∨ x = q ∨ x = t ∨ x = rb ∨ ∃ r ∈ g, r.F x) w w4 from OnlyS.trans (HON3.out.mono fun x _ hx => by
          rcases hx with hx | hx | hx
          · exact .inl hx
          · exact .inr (.inl hx)
          · exact .inr (.inr (.inl hx))) ho4 fun x hx h2 => by
          rcases h2 with h2 | h2
          · rcases HO3.out x h2 with h3 | h3
            · exact .inl h3
            · omega
          · exact .inr (.inr (.inr (.inr h2))))
        have HO4 := Lib.hid (show ∀ x, O4 x → O3 x ∨ w3.heap.size ≤ x from hO4)
        have h34 : ∀ x, (O3 x ∨ ∃ r ∈ g, r.F x) → x ≠ q ∧ x ≠ t ∧ x ≠ rb ∧ ¬ X3 x ∧ ¬ F x := fun x hx => by
          have := HQW.out
          have := HTW.out
          rcases hx with hx | ⟨r, hr, hx⟩
          · have h6 : ¬ X3 x ∧ ¬ F x := ⟨HOX3.out x hx, fun h2 => (HF3.out x h2).2.1 hx⟩
            rcases HO3.out x hx with h3 | h3
            · exact ⟨fun e => HSR.out.oq (e ▸ h3), fun e => HSR.out.ow x h3 (.inl e), fun e => HRBN.out x (.inl h3) e, h6⟩
            · exact ⟨by omega, by omega, by omega, h6⟩
          · have h3 := HGF.out r hr x hx
            refine ⟨h3.2.2.1, h3.2.2.2.1, h3.2.2.2.2, fun h4 => ?_, fun h4 => ?_⟩
            · have := HX3.out x h4; omega
            · have := (HF3.out x h4).1; omega
        have HPU4 := Lib.hid (HPU3.out.onlyS ho4 fun h2 => (h34 q h2).1 rfl)
        have HB4 := Lib.hid (show Wk5 w4 t p q K 0 _ from HB3.out.onlyS ho4 fun h2 => (h34 t h2).2.1 rfl)
        have HROW4 := Lib.hid (own_others HROW3.out ho4 fun x hx h2 => (h34 x h2).2.2.1 (Option.some.inj hx).symm)
        have HW4 := Lib.hid (HW3.out.keep ho4 fun x h2 => (h34 x h2).2.2.2.1)
        have HFIL4 := Lib.hid (HFIL.out.keep ho4 fun x h2 => (h34 x h2).2.2.2.2)
        have HX4 := Lib.hid (show ∀ x, X3 x → x < w3.heap.size from fun x hx => HW3.out.lt hx)
        have HF4 := Lib.hid (show ∀ x, F x → x < w3.heap.size from fun x hx => HFIL.out.lt hx)
        clear hp4 ho4 hO4 h34 HD HP3 HPU3 HB3 HROW3 HON3 HB2 HPU2 HP2
        have c44 := HB4.out.cell 4 _ rfl
        have f44 := HB4.out.free 4
        have hx45 := ext_new w4 (.cells #[.pointer (some ⟨f3, 0, none⟩)] 104)
        have HREP := Lib.hid (pReplace18_any B rb N rc A T ((a ++ (g ++ b)).map ptrR) ⟨w4.heap.size, 0, none⟩ 1 (.pointer (some ⟨f3, 0, none⟩)) _ (owns_extS HROW4.out hx45) (row_new w4 [.pointer (some ⟨f3, 0, none⟩)] _ 0 _ rfl) rfl (fun v hv => by
          obtain ⟨r, -, rfl⟩ := List.mem_map.1 hv
          rfl) (by show w4.heap.size ≠ rb; omega) (by omega) hTN)
        have HX45 := Lib.hid hx45
        clear hx45
        go_wp2_with fail
        refine HREP.out.mono ?_
        rintro e w6 ⟨rfl, hrow6, ho6⟩
        have HROW6 := Lib.hid hrow6
        have HO46 := Lib.hid (show OnlyS (fun x => x = rb) w4 w6 from OnlyS.trans (OnlyS.of_ext HX45.out) ho6 fun _ _ h => h)
        have htrb : t ≠ rb := fun e => HRBN.out t (.inr (.inr rfl)) e
        have HTRB := Lib.hid htrb
        have HB6 := Lib.hid (show Wk5 w6 t p q K 0 _ from HB4.out.onlyS HO46.out htrb)
        clear hrow6 ho6 htrb c44 f44
        have c46 := HB6.out.cell 4 _ rfl
        have f46 := HB6.out.free 4
        go_wp2_with fail
        have hs7 := only_setL t 4 w6 (.slice (some ⟨rb, 0, none⟩) (A + 1 + (N - T)) rc)
        have hB7 := HB6.out.set 4 (.slice (some ⟨rb, 0, none⟩) (A + 1 + (N - T)) rc)
        have hn4 : ∀ x, O4 x → x ≠ t ∧ x ≠ rb := fun x hx => by
          have := HTW.out
          rcases HO4.out x hx with h2 | h2
          · rcases HO3.out x h2 with h3 | h3
            · exact ⟨fun e => HSR.out.ow x h3 (.inl e), fun e => HRBN.out x (.inl h3) e⟩
            · exact ⟨by omega, by omega⟩
          · exact ⟨by omega, by omega⟩
        have hP7 := (HP4.out.onlyS HO46.out fun x hx e => (hn4 x hx).2 e).onlyS hs7 fun x hx e => (hn4 x hx).1 e
        have hW7 := (HW4.out.keep HO46.out fun x e hx => by have := HX3.out x hx; omega).keep hs7 fun x e hx => by have := HX3.out x hx; have := HTW.out; omega
        have hFIL7 := (HFIL4.out.keep HO46.out fun x e hx => by have := (HF3.out x hx).1; omega).keep hs7 fun x e hx => by have := (HF3.out x hx).1; have := HTW.out; omega
        have hqt : q ≠ t := by have := HSR.out.qB; have := HSR.out.mem.tB; omega
        have hqrb : q ≠ rb := fun e => HRBN.out q (.inr (.inl rfl)) e
        have hPU7 := (HPU4.out.onlyS HO46.out hqrb).onlyS hs7 hqt
        have hROW7 := own_others HROW6.out hs7 fun x hx e => HTRB.out ((Option.some.inj hx).trans e).symm
        have hok4 := dropS_ok (intsN (g.flatMap Run.ids)) _ HOK3.out
        refine leaves_cons (f := 83) (args := #[.pointer (some ⟨f, 0, none⟩)]) (by simp) (by simp [go_sem]) ?_
        refine (pCancelD17_any O4 X3 f p _ offW .returning _ hP7 hok4 hW7 (fun x hx h2 => ?_)).mono ?_
        · rcases HO4.out x hx with h3 | h3
          · exact HOX3.out x h3 h2
          · have := HX4.out x h2; omega
        rintro e u' w8 ⟨rfl, O8, rfl, hp8, ho8, hO8⟩
        have hn8 : ∀ x, (x = q ∨ x = t ∨ x = rb ∨ F x) → ¬ (O4 x ∨ X3 x) := fun x hx h2 => by
          have := HQW.out
          have := HTW.out
          have h7 : ¬ O4 x := fun h3 => by
            rcases hx with rfl | rfl | rfl | hx
            · rcases HO4.out x h3 with h4 | h4
              · rcases HO3.out x h4 with h5 | h5
                · exact HSR.out.oq h5
                · omega
              · omega
            · exact (hn4 _ h3).1 rfl
            · exact (hn4 _ h3).2 rfl
            · rcases HO4.out x h3 with h4 | h4
              · exact (HF3.out x hx).2.1 h4
              · have := HF4.out x hx; omega
          rcases h2 with h2 | h2
          · exact h7 h2
          · have := HX3.out x h2
            rcases hx with rfl | rfl | rfl | hx
            · omega
            · omega
            · omega
            · exact (HF3.out x hx).2.2 h2
        have hsz6 := HO46.out.size
        have hsz7 := hs7.size
        have hO8' : ∀ x, O8 x → O x ∨ w.heap.size ≤ x := fun x hx => by
          rcases hO8 x hx with h2 | h2
          · rcases HO4.out x h2 with h3 | h3
            · exact HO3.out x h3
            · exact .inr (by omega)
          · exact .inr (by omega)
        have hONF : OnlyS (fun x => O x ∨ x = q ∨ x = t ∨ x = rb ∨ ∃ r ∈ g, r.F x) w w8 := OnlyS.trans (OnlyS.trans (OnlyS.trans HON4.out HO46.out fun x hx e => .inr (.inr (.inr (.inl e)))) hs7 fun x hx e => .inr (.inr (.inl e))) ho8 fun x hx h2 => by
          rcases h2 with h2 | h2
          · rcases HO4.out x h2 with h3 | h3
            · rcases HO3.out x h3 with h5 | h5
              · exact .inl h5
              · omega
            · omega
          · have := HX3.out x h2; omega
        have hmv : OnD ks s0 (dropS (putR s xs).2 (intsN (g.flatMap Run.ids))) (a ++ ((⟨f3, F, (putR s xs).1.1, g.flatMap Run.y⟩ : Run) :: b)) := by
          have h1 := HSR.out.dsk.put (y := g.flatMap Run.y) HMY.out (by rw [← HXS.out]; exact HPE.out) f3 F
          rw [← HXS.out, List.append_assoc] at h1
          have h2 := h1.moved.drop
          rw [List.append_assoc] at h2
          exact h2
        have hNT : A + 1 + (N - T) = (a ++ ((⟨f3, F, (putR s xs).1.1, g.flatMap Run.y⟩ : Run) :: b)).length := by
          have h1 := HNL.out
          have h2 := HAL.out
          have h3 := HTL.out
          rw [List.length_append, List.length_append] at h1
          rw [List.length_append, List.length_cons]
          omega
        have hrows : ((a ++ (g ++ b)).map ptrR).take A ++ (.pointer (some ⟨f3, 0, none⟩)) :: ((a ++ (g ++ b)).map ptrR).drop T = (a ++ ((⟨f3, F, (putR s xs).1.1, g.flatMap Run.y⟩ : Run) :: b)).map ptrR := by
          have h2 := HAL.out
          have h3 := HTL.out
          have e1 : ((a ++ (g ++ b)).map ptrR).take A = a.map ptrR := by
            rw [List.map_append, List.take_append_of_le_length (by rw [List.length_map]; omega), List.take_of_length_le (by rw [List.length_map]; omega)]
          have e2 : ((a ++ (g ++ b)).map ptrR).drop T = b.map ptrR := by
            rw [← List.append_assoc, List.map_append, List.drop_append_of_le_length (by rw [List.length_map, List.length_append]; omega), List.drop_of_length_le (by rw [List.length_map, List.length_append]; omega), List.nil_append]
          rw [e1, e2, List.map_append, List.map_cons]
          rfl
        have hROW8 := own_others hROW7 ho8 fun x hx h2 => hn8 x (.inr (.inr (.inl (Option.some.inj hx).symm))) h2
        rw [hrows] at hROW8
        have hROW9 : w8.ownsRow B 104 1 (.slice (some ⟨rb, 0, none⟩) (A + 1 + (N - T)) rc) (a ++ ((⟨f3, F, (putR s xs).1.1, g.flatMap Run.y⟩ : Run) :: b)).length ((a ++ ((⟨f3, F, (putR s xs).1.1, g.flatMap Run.y⟩ : Run) :: b)).map ptrR) := by
          rw [← hNT]
          exact hROW8
        have hfin := HSR.out.joined (rb := rb) (N := N) (rc := rc) (N' := _) (r' := ⟨f3, F, (putR s xs).1.1, g.flatMap Run.y⟩) hp8 hok4 hO8' ⟨pk, hPU7.onlyS ho8 (hn8 q (.inl rfl))⟩ hONF (hB7.onlyS ho8 (hn8 t (.inr (.inl rfl)))) hROW9
          (by
            have := hFIL7.keep ho8 fun x h2 hx => hn8 x (.inr (.inr (.inr hx))) h2
            have e : xs.length = (g.flatMap Run.y).length := by rw [HXS.out, sortS_length]
            rw [e] at this
            exact this) (fun x hx => ⟨(HF3.out x hx).1, fun h2 => by
              rcases hO8 x h2 with h3 | h3
              · exact hn8 x (.inr (.inr (.inr hx))) (.inl h3)
              · have := HF4.out x hx; omega⟩) hmv HMY.out
        refine ⟨_, results_tmp rfl _ _ _, 0, O8, _, 0, _, _, rfl, hfin, hONF.mono fun x hx h2 => ?_, hO8', .inl ⟨rfl, rfl, _, rfl, rfl⟩⟩
        rcases h2 with h2 | h2 | rfl | rfl | ⟨r, hr, h2⟩
        · exact .inl h2
        · exact .inr (.inl h2)
        · exact .inr (.inr HSR.out.mem.tB)
        · exact .inr (.inr hrb1)
        · exact .inr (.inr (HSR.out.mem.ft r (HGS.out r hr) x h2).1)
    · have HZ2 := Lib.hid hz2
      have HMEM := Lib.hid hmem
      clear hz2 hmem
      go_wp2_with fail
      refine leaves_cons (f := 83) (args := #[.pointer (some ⟨f, 0, none⟩)]) (by simp) (by simp [go_sem]) ?_
      refine (HCAN.out O2 X2 _ _ w2 5 HP2.out (storeK_ok HSR.out.ok _ _) HZ2.out.1 HOX2.out (cancelW_at _) HO2.out (fun x hx => (HX2.out x hx).1) HPU2.out HB2.out HON.out (.inl ⟨rfl, HMEM.out⟩)).mono ?_
      rintro e u' w' ⟨rfl, rfl, E', O', s', held', R', rs', he, hj⟩
      cases he
      exact ⟨_, results_tmp rfl _ _ _, _, O', s', held', R', rs', rfl, hj⟩
    · have HZ2 := Lib.hid hz2
      have HNR := Lib.hid (HSR.out.dsk.noRoomJ (y := g.flatMap Run.y) rfl (by
        rw [HFLAT.out, rowsB_append, rowsB_append, List.length_append, List.length_append]
        omega) (by rw [← HXS.out]; exact hbad))
      clear hz2 hbad
      go_wp2_with fail
      refine leaves_cons (f := 83) (args := #[.pointer (some ⟨f, 0, none⟩)]) (by simp) (by simp [go_sem]) ?_
      refine (HCAN.out O2 X2 _ offW w2 4 HP2.out HSR.out.ok HZ2.out HOX2.out rfl HO2.out (fun x hx => (HX2.out x hx).1) HPU2.out HB2.out HON.out (.inr ⟨rfl, HNR.out⟩)).mono ?_
      rintro e u' w' ⟨rfl, rfl, E', O', s', held', R', rs', he, hj⟩
      cases he
      exact ⟨_, results_tmp rfl _ _ _, _, O', s', held', R', rs', rfl, hj⟩
end Go.Proofs.YtaoegcakefodaaaGreat

