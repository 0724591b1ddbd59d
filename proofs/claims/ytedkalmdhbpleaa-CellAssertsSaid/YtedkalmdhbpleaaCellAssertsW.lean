/-
  The walk of the law CellAsserts, behind its closures.
-/
import Derived.Test.YtedkalmdhbpleaaCellAsserts
namespace Go.Proofs.Ytedkalmdhbpleaa
open Go.RowKit Go.Shelf

/-- The value's box, and the two variables that the closures set. -/
structure St (w0 W : World) (bx bn bs : Nat) (xs : List Value) (n : Int) (s : ByteArray) : Prop where
  cells : ∀ j u, xs[j]? = some u → W.cell? ⟨bx, j, none⟩ = some u
  n : W.heap[bn]? = some (.cells #[.int .i64 n] 3 (0, 0))
  s : W.heap[bs]? = some (.cells #[.string s] 9 (0, 0))
  below : Ext w0 W
  d1 : bx < bn
  d2 : bn < bs
  d3 : w0.heap.size ≤ bx

theorem St.lt {w0 W : World} {bx bn bs : Nat} {xs : List Value} {n : Int} {s : ByteArray} (h : St w0 W bx bn bs xs n s) : bs < W.heap.size := (Array.getElem?_eq_some_iff.1 h.s).1
theorem St.ext {w0 W W' : World} {bx bn bs : Nat} {xs : List Value} {n : Int} {s : ByteArray} (h : St w0 W bx bn bs xs n s) (hb : Ext W W') : St w0 W' bx bn bs xs n s :=
  ⟨kept_cell h.cells hb, by rw [hb.block bn (Array.getElem?_eq_some_iff.1 h.n).1]; exact h.n, by rw [hb.block bs h.lt]; exact h.s, Ext.trans h.below hb, h.d1, h.d2, h.d3⟩
theorem heap_set_other (W : World) (a : Addr) (v : Value) (k : Nat) (h : k ≠ a.block) : (W.setCell a v).heap[k]? = W.heap[k]? := by simp [World.setCell, Array.getElem?_modify, Ne.symm h]
theorem cell_set_other (W : World) (a : Addr) (v : Value) (b j : Nat) (h : b ≠ a.block) : (W.setCell a v).cell? ⟨b, j, none⟩ = W.cell? ⟨b, j, none⟩ := by
  unfold World.cell?
  rw [heap_set_other W a v b h]
theorem St.other {w0 W : World} {bx bn bs : Nat} {xs : List Value} {n : Int} {s : ByteArray} (h : St w0 W bx bn bs xs n s) (a : Addr) (v : Value) (h1 : bx ≠ a.block) (h2 : bn ≠ a.block) (h3 : bs ≠ a.block) (h4 : w0.heap.size ≤ a.block) : St w0 (W.setCell a v) bx bn bs xs n s :=
  ⟨fun j u hj => by rw [cell_set_other W a v bx j h1]; exact h.cells j u hj, by rw [heap_set_other W a v bn h2]; exact h.n, by rw [heap_set_other W a v bs h3]; exact h.s, h.below.setCell h4 _, h.d1, h.d2, h.d3⟩
theorem St.setN {w0 W : World} {bx bn bs : Nat} {xs : List Value} {n : Int} {s : ByteArray} (h : St w0 W bx bn bs xs n s) (m : Int) : St w0 (W.setCell ⟨bn, 0, none⟩ (.int .i64 m)) bx bn bs xs m s := by
  have := h.d1; have := h.d2; have := h.d3
  exact ⟨fun j u hj => by rw [cell_set_other W _ _ bx j (by show bx ≠ bn; omega)]; exact h.cells j u hj, by simp [World.setCell, Array.getElem?_modify, h.n], by rw [heap_set_other W _ _ bs (by show bs ≠ bn; omega)]; exact h.s, h.below.setCell (by show _ ≤ bn; omega) _, h.d1, h.d2, h.d3⟩
theorem St.setS {w0 W : World} {bx bn bs : Nat} {xs : List Value} {n : Int} {s : ByteArray} (h : St w0 W bx bn bs xs n s) (m : ByteArray) : St w0 (W.setCell ⟨bs, 0, none⟩ (.string m)) bx bn bs xs n m := by
  have := h.d1; have := h.d2; have := h.d3
  exact ⟨fun j u hj => by rw [cell_set_other W _ _ bx j (by show bx ≠ bs; omega)]; exact h.cells j u hj, by rw [heap_set_other W _ _ bn (by show bn ≠ bs; omega)]; exact h.n, by simp [World.setCell, Array.getElem?_modify, h.s], h.below.setCell (by show _ ≤ bs; omega) _, h.d1, h.d2, h.d3⟩

theorem alloc_block (W : World) (o : Obj) : (W.alloc o).heap[W.heap.size]? = some o := heap_alloc_new W o

theorem panics1 (w0 W : World) (bx bn bs : Nat) (k n m : Int) (t s : ByteArray) (h : St w0 W bx bn bs [.int .u8 k, .int .i64 n, .string t] m s) :
    Calls Try.prog 27 #[.func (.func 28) #[] #[.pointer (some ⟨bx, 0, none⟩), .pointer (some ⟨bn, 0, none⟩)]] W fun e w' => e = .returned (.bool false) ∧ St w0 w' bx bn bs [.int .u8 k, .int .i64 n, .string t] n s := by
  have hx : Ext W (W.alloc (.cells #[.bool false] 4)) := ext_one _ _
  have h1 := h.ext hx
  have hlt := h.lt
  have := h.d1; have := h.d2; have := h.d3
  refine (panics_no _ _ W (fun w' => St w0 w' bx bn bs [.int .u8 k, .int .i64 n, .string t] n s) enters_1 ?_).mono ?_
  · refine (asserts1 bx bn n m _ (h1.cells 1 _ rfl) h1.n).mono ?_
    rintro e w' ⟨rfl, w1, hb, rfl⟩
    refine ⟨rfl, (h1.ext hb).setN n, ?_⟩
    rw [heap_set_other _ _ _ _ (by show W.heap.size ≠ bn; omega), hb.block W.heap.size (by simp)]
    exact alloc_block W _
  · rintro e w' ⟨rfl, w2, hst, _, rfl⟩
    have hd : ∀ k, k < W.heap.size → k ≠ W.heap.size := fun k hk => by omega
    exact ⟨rfl, (hst.other ⟨W.heap.size, 0, none⟩ _ (hd _ (by omega)) (hd _ (by omega)) (hd _ (by omega)) (by show _ ≤ W.heap.size; omega)).other ⟨W.heap.size, 0, none⟩ _ (hd _ (by omega)) (hd _ (by omega)) (hd _ (by omega)) (by show _ ≤ W.heap.size; omega)⟩
theorem panics2 (w0 W : World) (bx bn bs : Nat) (k n m : Int) (t s : ByteArray) (h : St w0 W bx bn bs [.int .u8 k, .int .i64 n, .string t] m s) :
    Calls Try.prog 27 #[.func (.func 30) #[] #[.pointer (some ⟨bx, 0, none⟩), .pointer (some ⟨bs, 0, none⟩)]] W fun e w' => e = .returned (.bool false) ∧ St w0 w' bx bn bs [.int .u8 k, .int .i64 n, .string t] m t := by
  have hx : Ext W (W.alloc (.cells #[.bool false] 4)) := ext_one _ _
  have h1 := h.ext hx
  have hlt := h.lt
  have := h.d1; have := h.d2; have := h.d3
  refine (panics_no _ _ W (fun w' => St w0 w' bx bn bs [.int .u8 k, .int .i64 n, .string t] m t) enters_2 ?_).mono ?_
  · refine (asserts2 bx bs t s _ (h1.cells 2 _ rfl) h1.s).mono ?_
    rintro e w' ⟨rfl, w1, hb, rfl⟩
    refine ⟨rfl, (h1.ext hb).setS t, ?_⟩
    rw [heap_set_other _ _ _ _ (by show W.heap.size ≠ bs; omega), hb.block W.heap.size (by simp)]
    exact alloc_block W _
  · rintro e w' ⟨rfl, w2, hst, _, rfl⟩
    have hd : ∀ k, k < W.heap.size → k ≠ W.heap.size := fun k hk => by omega
    exact ⟨rfl, (hst.other ⟨W.heap.size, 0, none⟩ _ (hd _ (by omega)) (hd _ (by omega)) (hd _ (by omega)) (by show _ ≤ W.heap.size; omega)).other ⟨W.heap.size, 0, none⟩ _ (hd _ (by omega)) (hd _ (by omega)) (hd _ (by omega)) (by show _ ≤ W.heap.size; omega)⟩

theorem panics34 (x : Value) (hx : Bad x) (p : Addr) (w : World) (hc : w.cell? p = some x) :
    (Calls Try.prog 27 #[.func (.func 32) #[] #[.pointer (some p)]] w fun e w' => e = .returned (.bool true) ∧ Ext w w') ∧
    (Calls Try.prog 27 #[.func (.func 33) #[] #[.pointer (some p)]] w fun e w' => e = .returned (.bool true) ∧ Ext w w') :=
  ⟨panics_yes _ _ w enters_3 fun w1 hb => asserts3 x hx p w1 (by rw [hb.cell (lt_of_cell hc)]; exact hc), panics_yes _ _ w enters_4 fun w1 hb => asserts4 x hx p w1 (by rw [hb.cell (lt_of_cell hc)]; exact hc)⟩
theorem panics5 (b : Nat) (s : ByteArray) (w : World) (hc : w.cell? ⟨b, 2, none⟩ = some (.string s)) :
    Calls Try.prog 27 #[.func (.func 34) #[] #[.pointer (some ⟨b, 0, none⟩)]] w fun e w' => e = .returned (.bool true) ∧ Ext w w' :=
  panics_yes _ _ w enters_5 fun w1 hb => asserts5 b s w1 (by rw [hb.cell (lt_of_cell hc)]; exact hc)
theorem panics6 (b : Nat) (n : Int) (w : World) (hc : w.cell? ⟨b, 1, none⟩ = some (.int .i64 n)) :
    Calls Try.prog 27 #[.func (.func 35) #[] #[.pointer (some ⟨b, 0, none⟩)]] w fun e w' => e = .returned (.bool true) ∧ Ext w w' :=
  panics_yes _ _ w enters_6 fun w1 hb => asserts6 b n w1 (by rw [hb.cell (lt_of_cell hc)]; exact hc)

set_option maxRecDepth 100000 in
set_option maxHeartbeats 1000000 in
theorem cellAsserts_walk (v : V) (w : World) (hv : v.fits) (lv : v.s.length ≤ maxLen) :
    Calls Try.prog 7 #[v.val] w fun e w' => e = .returned (.bool true) ∧ Below w.heap.size w w' := by
  have hmf : ∀ (fn : Fn) (first cap : Array Value) (w : World), (Instr.makeFunc fn first cap).run Try.prog w = .ok (.func fn first cap) w := fun _ _ _ _ => rfl
  obtain ⟨k, n, s⟩ := v
  unfold V.val
  unfold maxLen at lv
  simp only at lv ⊢
  clear hv
  go_enter Try.func7, Try.ntmps7
  go_wp2_with fail
  have hcells := new_cell w [.int .u8 k, .int .i64 n, .string ⟨s.toArray⟩] 23
  have HX := Lib.hid (ext_one w (.cells #[.int .u8 k, .int .i64 n, .string ⟨s.toArray⟩] 23))
  refine (shown_any _).mono ?_
  rintro e w1 ⟨rfl, hb⟩
  have HC1 := Lib.hid (kept_cell hcells hb)
  have HE1 := Lib.hid (Ext.trans HX.out hb)
  have HS1 := Lib.hid (show w.heap.size < w1.heap.size by have := hb.size; simp at this; omega)
  have hc2 := HC1.out 2 _ rfl
  clear hb hcells
  by_cases l1 : 3000 < s.length
  · go_wp2_with fail
    go_ret
    exact ⟨rfl, HE1.out⟩
  · go_wp2_with fail
    have HST := Lib.hid (show St w ((w1.alloc (.cells #[.int .i64 0] 3)).alloc (.cells #[.string ⟨#[]⟩] 9)) w.heap.size w1.heap.size (w1.heap.size + 1) [.int .u8 k, .int .i64 n, .string ⟨s.toArray⟩] 0 ⟨#[]⟩ from
      ⟨kept_cell HC1.out (ext_two _ _ _), heap_alloc2_old _ _ _, heap_alloc2_new _ _ _, Ext.trans HE1.out (ext_two _ _ _), HS1.out, by omega, Nat.le_refl _⟩)
    refine (panics1 w _ _ _ _ k n 0 _ _ HST.out).mono ?_
    rintro e w2 ⟨rfl, hst⟩
    have HST2 := Lib.hid hst
    clear hst hc2
    go_wp2_with fail
    refine (panics2 w _ _ _ _ k n n _ _ HST2.out).mono ?_
    rintro e w3 ⟨rfl, hst⟩
    have HST3 := Lib.hid hst
    have hc0 := hst.cells 0 _ rfl
    have hc1 := hst.cells 1 _ rfl
    have hc2 := hst.cells 2 _ rfl
    have hcn : w3.cell? ⟨w1.heap.size, 0, none⟩ = some (.int .i64 n) := by simp [World.cell?, hst.n]
    have hcs : w3.cell? ⟨w1.heap.size + 1, 0, none⟩ = some (.string ⟨s.toArray⟩) := by simp [World.cell?, hst.s]
    obtain ⟨bu, w4, hconv, _, hb4⟩ := bytes_of (P := Try.prog) w3 9 40 5 ⟨s.toArray⟩ Try.underlying9 Try.underlying40 Try.underlying5 (by show s.length ≤ maxLen; unfold maxLen; omega)
    have HST4 := Lib.hid (HST3.out.ext hb4)
    clear hst hb4
    obtain ⟨xs, hxs⟩ : ∃ xs : List Value, xs = [.nilIface, .iface 23 (.agg #[.int .u8 k, .int .i64 n, .string ⟨s.toArray⟩]), .iface 4 (.bool (n == 0)), .iface 2 (.int .i64 n), .iface 40 bu] := ⟨_, rfl⟩
    have HBAD := Lib.hid (show ∀ x ∈ xs, Bad x from fun x hx => by
      rw [hxs] at hx
      simp only [List.mem_cons, List.not_mem_nil, or_false] at hx
      rcases hx with rfl | rfl | rfl | rfl | rfl
      · exact .inl rfl
      all_goals exact .inr ⟨_, _, rfl, by decide, by decide⟩)
    have HLEN := Lib.hid (show xs.length = 5 by rw [hxs]; rfl)
    have HROW := Lib.hid (new_cell w4 xs 20)
    have HX5 := Lib.hid (ext_one w4 (.cells xs.toArray 20))
    rw [hxs] at HX5 HROW
    have HXS := Lib.hid hxs
    clear hxs
    go_wp2_with fail
    clear hconv hc0 hc1 hc2 hcn hcs
    generalize w4.alloc _ = W5 at HROW HX5 ⊢
    rw [← HXS.out] at HROW
    go_loopw [9, 51] (fun _ i wr => ∃ j : Nat, j ≤ 5 ∧ i = .int .i64 j ∧ Ext W5 wr) (fun _ i _ => 5 - (intOf i).toNat)
    case atStart => exact ⟨0, by omega, rfl, Ext.keeps.refl _⟩
    case round =>
      obtain ⟨j, hj, rfl, hext⟩ := hrel
      have HE := Lib.hid hext
      clear hext
      by_cases hlt : j < 5
      · have hjl : j < xs.length := by have := HLEN.out; omega
        have hcx : wr.cell? ⟨w4.heap.size, j, none⟩ = some xs[j] := kept_cell HROW.out HE.out j _ (List.getElem?_eq_getElem hjl)
        have HBX := Lib.hid (HBAD.out _ (List.getElem_mem hjl))
        generalize xs[j] = x at hcx HBX
        have HNEW := Lib.hid (fun o => ext_one wr o)
        have hshape := HBX.out
        rcases hshape with rfl | ⟨T, u, rfl, _, _⟩
        all_goals
          go_wp2_with fail
          refine (panics34 _ HBX.out _ _ (new_cell wr [_] 20 0 _ rfl)).1.mono ?_
          rintro e w6 ⟨rfl, hb6⟩
          have H6 := Lib.hid (kept_cell (new_cell wr [_] 20) hb6)
          have E6 := Lib.hid (Ext.trans (HNEW.out _) hb6)
          clear hb6
          go_wp2_with fail
          refine (panics34 _ HBX.out _ _ (H6.out 0 _ rfl)).2.mono ?_
          rintro e w7 ⟨rfl, hb7⟩
          have E7 := Lib.hid (Ext.trans HE.out (Ext.trans E6.out hb7))
          clear hb7
          go_wp2_with fail
          go_roundw
          case rel => exact ⟨j + 1, by omega, by go_num, E7.out⟩
          case measure => simp [intOf]; omega
      · have HEND := Lib.hid (HST4.out.ext (Ext.trans HX5.out HE.out))
        have hj5 : j = 5 := by omega
        subst hj5
        go_wp2_with fail
        refine (panics5 _ _ wr (HEND.out.cells 2 _ rfl)).mono ?_
        rintro e w6 ⟨rfl, hb6⟩
        have HE6 := Lib.hid (HEND.out.ext hb6)
        clear hb6
        go_wp2_with fail
        refine (panics6 _ _ w6 (HE6.out.cells 1 _ rfl)).mono ?_
        rintro e w7 ⟨rfl, hb7⟩
        have HE7 := Lib.hid (HE6.out.ext hb7)
        clear hb7
        go_wp2_with fail
        go_ret
        exact ⟨rfl, HE7.out.below⟩

end Go.Proofs.Ytedkalmdhbpleaa
