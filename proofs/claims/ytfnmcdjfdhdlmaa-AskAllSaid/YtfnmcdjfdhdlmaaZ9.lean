/-
  Texts of this proof, merged: AskP7, AskRef6, AskAllW, OpenVal, OpenVals, OpenRows.
-/
import Derived.Lib.AppendZeros
import Derived.Lib.SliceRun
import Derived.Lib.SmallJoins
import Derived.Deep.Slices
import Derived.Deep.Fields
import Derived.Test.YtfnmcdjfdhdlmaaZ3
import Derived.Test.YtfnmcdjfdhdlmaaZ8
import Derived.Test.YtfnmcdjfdhdlmaaZ1
/-
  The program's contracts of conditions: All, and what it calls of the library.
-/
namespace Go.Proofs.Ytfnmcdjfdhdlmaa
section
open Go.ChangeAt Go.RowKit Go.BigFrame

/-- Without an address there is nothing, and no room. -/
def NilOkN (u : Value) : Prop := ∀ n c, u = .slice none n c → n = 0 ∧ c = 0
theorem nilN_form {w : World} {u : Value} {l : List Nd} (h : RdNds w u l) (hn : NilOkN u) (hl : l = []) : u = .slice none 0 0 ∨ ∃ ad cap, u = .slice (some ad) 0 cap := by
  obtain ⟨ao, cap, rfl, -, -⟩ := h.shape
  subst hl
  cases ao with
  | none => obtain ⟨-, h2⟩ := hn _ _ rfl; subst h2; exact .inl rfl
  | some ad => exact .inr ⟨ad, cap, rfl⟩

theorem onlyTrue_any (u : Value) (l : List Nd) (w : World) (hu : RdNds w u l) :
    Calls Try.prog 14 #[u] w fun e w' => e = .returned (.bool (isTrueA l)) ∧ w' = w := by
  obtain ⟨ao, cap, rfl, -, -⟩ := hu.shape
  obtain ⟨-, h1, h2, hc⟩ := hu.plain
  unfold maxLen at h2
  match l, hc with
  | [], _ =>
    go_enter Try.func14, Try.ntmps14
    go_wp2_with fail
    go_ret
    exact ⟨rfl, rfl⟩
  | [n], hc =>
    obtain ⟨g, off, rfl, c0, -⟩ := hc 0 (by simp)
    simp only [List.getElem_cons_zero, Nat.zero_mul, Nat.add_zero] at c0
    have HQ := Lib.hid (show isTrueA [n] = decide (n.op = 1) from rfl)
    rw [HQ.out]
    generalize n.op = o at c0
    clear hu hc HQ
    by_cases h : o = 1
    · subst h
      go_enter Try.func14, Try.ntmps14
      go_wp2_with fail
      go_ret
      exact ⟨rfl, rfl⟩
    · have q : (o == (1 : Int)) = false := beq_eq_false_iff_ne.2 h
      rw [decide_eq_false h]
      clear h
      go_enter Try.func14, Try.ntmps14
      go_wp2_with fail
      go_ret
      exact ⟨rfl, rfl⟩
  | a :: b :: t, _ =>
    have HQ := Lib.hid (show isTrueA (a :: b :: t) = false from rfl)
    rw [HQ.out]
    have hL : (a :: b :: t).length = t.length + 2 := rfl
    have q : (((t.length + 2 : Nat) : Int) == (1 : Int)) = false := beq_eq_false_iff_ne.2 (by omega)
    have q' : ((t.length + 2 : Nat) == 1) = false := beq_eq_false_iff_ne.2 (by omega)
    rw [hL] at h1 ⊢
    generalize t.length + 2 = L at h1 q q' ⊢
    clear hu hL
    go_enter Try.func14, Try.ntmps14
    go_wp2_with fail
    go_ret
    exact ⟨rfl, rfl⟩

/-- A call answers these nodes, in a row of its own. -/
def FreshN (w : World) (l : List Nd) (e : Ending) (w' : World) : Prop := ∃ v, e = .returned v ∧ w'.ownsRow w.heap.size 39 6 v l.length (l.flatMap Nd.cells) ∧ Ext w w'

set_option maxRecDepth 100000 in
set_option maxHeartbeats 1000000 in
theorem cloneN_any (v : Value) (l : List Nd) (w : World) (hr : RdNds w v l) (hl : l.length ≤ 100000) :
    Calls Try.prog 15 #[v] w (FreshN w l) := by
  obtain ⟨ao, cap, rfl, h1, h2⟩ := hr.shape
  cases ao with
  | none =>
    have hl0 : l = [] := by
      obtain ⟨-, -, -, hc⟩ := hr.plain
      cases l with
      | nil => rfl
      | cons b t => obtain ⟨g, off, e, _⟩ := hc 0 (by simp); cases e
    subst hl0
    have hq : ∀ w, (binOp BinOp.eql 23 (.slice none 0 cap) (.slice none 0 0)).run Try.prog w = .ok (.bool true) w := fun w => Lib.run_eql_slice_nil w _ _ none 0 cap 0 0 Try.underlying23
    clear hr
    go_enter Try.func15, Try.ntmps15
    go_wp2_with fail
    go_ret
    exact ⟨_, rfl, World.ownsRow_nil _ _ _ _, Ext.keeps.refl _⟩
  | some x =>
    have hq : ∀ w, (binOp BinOp.eql 23 (.slice (some x) l.length cap) (.slice none 0 0)).run Try.prog w = .ok (.bool false) w := fun w => Lib.run_eql_slice_nil w _ _ (some x) _ _ 0 0 Try.underlying23
    have HR := Lib.hid (hr.mono (ext_new w (.cells #[] 39)))
    have HO := Lib.hid (empty_nds w)
    have HL := Lib.hid (show l = [] → (Value.slice (some x) l.length cap = .slice none 0 0 ∨ ∃ ad c, Value.slice (some x) l.length cap = .slice (some ad) 0 c) from fun h => .inr ⟨x, cap, by rw [h]; rfl⟩)
    clear hr
    generalize hN : l.length = N at *
    have HN := Lib.hid hN
    clear hN
    go_enter Try.func15, Try.ntmps15
    go_wp2_with (at_builtin; go_loud (refine wpList_append_nds rfl (.tmp 5) (.tmp 6) rfl w.heap.size _ [] _ l rfl HO.out rfl HR.out HL.out (by simp) (by rw [HN.out]; omega) (by simp) ?_); intro v2 w2 hown2 hbel2)
    go_ret
    exact ⟨_, rfl, by simpa using hown2, Below.trans (ext_new w _) hbel2⟩

theorem size_zeroN (z : Array Value) (n : Nat) : (Builtin.zeroCells z n).size = n * z.size := by
  simp [Builtin.zeroCells]

set_option maxRecDepth 100000 in
set_option maxHeartbeats 1000000 in
theorem growN_any (n : Nat) (w : World) (hn : n ≤ 1000000) :
    Calls Try.prog 28 #[.slice none 0 0, .int .i64 n] w (FreshN w []) := by
  obtain ⟨i0, hi, hz0, hz1, hz2⟩ := info_parts Try.info_node
  by_cases h0 : n = 0
  · subst h0
    go_enter Try.func28, Try.ntmps28
    go_wp2_with fail
    go_ret
    exact ⟨_, rfl, World.ownsRow_nil _ _ _ _, Below.refl _ _⟩
  · have hz := Lib.run_append_nil_zeros (P := Try.prog) w 23 3 23 39 i0 _ .i64 .i64 Try.underlying23 Try.underlying3 hi hz0 n (by omega) (by omega) (by omega) (by rw [hz2]; omega)
    have HZ := Lib.hid hz
    have hcap := Lib.hid (grownCap_ge w n 0 39)
    have hcap2 := Lib.hid (grownCap_le_maxLen w n 0 39 (by unfold maxLen; omega))
    have hpos : decide (0 < (n : Int)) = true := decide_eq_true (by omega)
    clear hz
    generalize grownCap w n 0 39 = C at HZ hcap hcap2
    go_enter Try.func28, Try.ntmps28
    go_wp2_with (at_builtin; go_loud (refine Lib.wpList_append_run _ rfl (.tmp 20) (.tmp 21) 23 3 rfl _ _ rfl rfl _ _ HZ.out ?_))
    go_ret
    have h1 := hcap.out
    refine ⟨_, rfl, ?_, ((Below.refl _ w).alloc (Nat.le_refl _) _).drew⟩
    refine ⟨rfl, .inr ⟨w.heap.size, C, _, rfl, Nat.le_refl _, heap_alloc_new w _, Nat.zero_le _, hcap2.out, ?_, by simp⟩⟩
    rw [Array.size_append, size_zeroN, size_zeroN]
    show n * 6 + (C - n) * 6 = C * 6
    omega

def totN (ls : List (List Nd)) (k : Nat) : Nat := (ls.take k).flatten.length
theorem totN_step (ls : List (List Nd)) (k : Nat) (h : k < ls.length) : totN ls (k + 1) = totN ls k + ls[k].length := by
  unfold totN
  rw [List.take_succ_eq_append_getElem h, List.flatten_append, List.length_append]
  simp
theorem flatN_step (ls : List (List Nd)) (k : Nat) (h : k < ls.length) : (ls.take (k + 1)).flatten = (ls.take k).flatten ++ ls[k] := by
  rw [List.take_succ_eq_append_getElem h, List.flatten_append]
  simp
theorem totN_le (ls : List (List Nd)) (k : Nat) : totN ls k ≤ ls.flatten.length := by
  unfold totN
  conv => rhs; rw [← List.take_append_drop k ls]
  rw [List.flatten_append, List.length_append]
  omega

set_option maxRecDepth 100000 in
set_option maxHeartbeats 2000000 in
/-- Rows of nodes, one behind the other, as a row of the call's own. -/
theorem concatN_any (x : Addr) (N cap : Nat) (vs : List Value) (ls : List (List Nd)) (w : World) (hN : N = ls.length) (hv : vs.length = ls.length) (hcap : N ≤ cap) (hcap2 : cap ≤ 9223372036854775807)
    (hc : ∀ (i : Nat) u, vs[i]? = some u → w.cell? (x.add i) = some u) (hr : ∀ (i : Nat) u l, vs[i]? = some u → ls[i]? = some l → RdNds w u l ∧ NilOkN u) (hl : ls.flatten.length ≤ 100000) :
    Calls Try.prog 16 #[.slice (some x) N cap] w (FreshN w ls.flatten) := by
  have HC := Lib.hid hc
  have HR := Lib.hid hr
  have HV := Lib.hid hv
  have HN := Lib.hid hN
  have HL := Lib.hid hl
  clear hc hr hv hN hl
  go_enter Try.func16, Try.ntmps16
  go_wp2_with fail
  go_loop [3, 11] (fun n i => ∃ k : Nat, k ≤ N ∧ i = .int .i64 k ∧ n = .int .i64 (totN ls k)) (fun _ i => N - (intOf i).toNat)
  case atStart => exact ⟨0, Nat.zero_le _, rfl, rfl⟩
  case round =>
    obtain ⟨k, hk, rfl, rfl⟩ := hrel
    have htl := totN_le ls k
    have htl2 := HL.out
    by_cases hlt : k < N
    · have hkl : k < ls.length := by have := HN.out; omega
      have hkv : k < vs.length := by have := HV.out; omega
      have hc := HC.out k _ (List.getElem?_eq_getElem hkv)
      have hrd := (HR.out k _ _ (List.getElem?_eq_getElem hkv) (List.getElem?_eq_getElem hkl)).1
      have HS := Lib.hid (totN_step ls k hkl)
      have hsl := totN_le ls (k + 1)
      rw [HS.out] at hsl
      generalize ls[k] = l at hrd HS hsl
      generalize vs[k] = u at hc hrd
      obtain ⟨a, cp, rfl, hs1, hs2⟩ := hrd.shape
      unfold maxLen at hs2
      generalize totN ls k = T at HS htl hsl ⊢
      have hneg : decide ((T : Int) + l.length < 0) = false := decide_eq_false (by omega)
      clear hrd
      go_wp2_with fail
      go_round
      case rel => exact ⟨k + 1, by omega, by go_num, by rw [HS.out]; go_num⟩
      case measure => simp [intOf]; omega
    · have hkN : k = N := by omega
      subst hkN
      have hT : totN ls k = ls.flatten.length := by unfold totN; rw [List.take_of_length_le (by have := HN.out; omega)]
      have HT := Lib.hid hT
      generalize totN ls k = T at HT htl ⊢
      clear hT hlt
      go_wp2_with fail
      refine (growN_any T w (by omega)).mono ?_
      rintro e w1 ⟨v1, rfl, ho1, hb1⟩
      have HO1 := Lib.hid ho1
      have HB1 := Lib.hid hb1
      clear ho1 hb1
      go_wp2_with fail
      go_loopw [6, 27] (fun r i wr => ∃ j : Nat, j ≤ k ∧ i = .int .i64 j ∧ wr.ownsRow w.heap.size 39 6 r (ls.take j).flatten.length (((ls.take j).flatten).flatMap Nd.cells) ∧ Below w.heap.size w wr) (fun _ i _ => k - (intOf i).toNat)
      case atStart => exact ⟨0, Nat.zero_le _, rfl, HO1.out, HB1.out⟩
      case round =>
        obtain ⟨j, hj, rfl, hor, hbr⟩ := hrel
        have HOR := Lib.hid hor
        have HBR := Lib.hid hbr
        clear hor hbr
        by_cases hjlt : j < k
        · have hkl : j < ls.length := by have := HN.out; omega
          have hkv : j < vs.length := by have := HV.out; omega
          have hc0 := HC.out j _ (List.getElem?_eq_getElem hkv)
          have hc : wr.cell? (x.add j) = some vs[j] := (HBR.out.cell (lt_of_cell hc0)).trans hc0
          have hrd := (HR.out j _ _ (List.getElem?_eq_getElem hkv) (List.getElem?_eq_getElem hkl)).1.mono HBR.out
          have hno := (HR.out j _ _ (List.getElem?_eq_getElem hkv) (List.getElem?_eq_getElem hkl)).2
          have HFS := Lib.hid (flatN_step ls j hkl)
          have hsl := totN_le ls (j + 1)
          have hsj := totN_le ls j
          unfold totN at hsl hsj
          rw [HFS.out, List.length_append] at hsl
          clear hc0
          generalize ls[j] = l at hrd hsl HFS
          generalize vs[j] = u at hc hrd hno
          have HNF := Lib.hid (nilN_form hrd hno)
          obtain ⟨a, cp, rfl, hs1, hs2⟩ := hrd.shape
          have HRD := Lib.hid hrd
          have hsz := HBR.out.size
          generalize (ls.take j).flatten = pre at HOR HFS hsl hsj ⊢
          clear hrd hno
          go_wp2_with (at_builtin; go_loud (refine wpList_append_nds rfl (.tmp 31) (.tmp 32) rfl w.heap.size _ pre _ l rfl HOR.out rfl HRD.out HNF.out (by omega) (by omega) hsz ?_); intro v2 w2 hown2 hbel2; have HOW := Lib.hid hown2; have HBL := Lib.hid hbel2; clear hown2 hbel2)
          go_roundw
          case rel => exact ⟨j + 1, by omega, by go_num, by rw [HFS.out]; exact HOW.out, Below.trans HBR.out HBL.out⟩
          case measure => simp [intOf]; omega
        · have hjk : j = k := by omega
          subst hjk
          have HFL := Lib.hid (show (ls.take j).flatten = ls.flatten by rw [List.take_of_length_le (by have := HN.out; omega)])
          clear hjlt
          rw [HFL.out] at HOR
          go_wp2_with fail
          go_ret
          exact ⟨_, rfl, HOR.out, HBR.out⟩

set_option maxRecDepth 100000 in
set_option maxHeartbeats 2000000 in
theorem pAll14_any (u v : Value) (a b : List Nd) (w : World) (hu : RdNds w u a) (hnu : NilOkN u) (hv : RdNds w v b) (hnv : NilOkN v) (ha : a.length ≤ 1000) (hb : b.length ≤ 1000) :
    Calls Try.prog 6 #[u, v] w fun e w' => ∃ x, e = .returned x ∧ RdNds w' x (allA a b) ∧ Ext w w' := by
  have HTB := Lib.hid (fun W (h : Ext w W) => onlyTrue_any v b W (hv.mono h))
  have HTA := Lib.hid (fun W (h : Ext w W) => onlyTrue_any u a W (hu.mono h))
  have HCA := Lib.hid (fun W (h : Ext w W) => cloneN_any u a W (hu.mono h) (by omega))
  have HCB := Lib.hid (fun W (h : Ext w W) => cloneN_any v b W (hv.mono h) (by omega))
  have HQ := Lib.hid (show allA a b = if isTrueA b = true then a else if isTrueA a = true then b else andN :: (a ++ b) from rfl)
  have HU := Lib.hid hu
  have HV := Lib.hid hv
  have HNU := Lib.hid hnu
  have HNV := Lib.hid hnv
  obtain ⟨ao, ac, rfl, -, -⟩ := hu.shape
  obtain ⟨bo, bc, rfl, -, -⟩ := hv.shape
  generalize isTrueA b = tb at HTB HQ
  generalize isTrueA a = ta at HTA HQ
  have HLA := Lib.hid ha
  have HLB := Lib.hid hb
  obtain ⟨A, hA⟩ : ∃ A, a.length = A := ⟨_, rfl⟩
  obtain ⟨B, hB⟩ : ∃ B, b.length = B := ⟨_, rfl⟩
  rw [hA] at HTA HCA HU HNU ⊢
  rw [hB] at HTB HCB HV HNV ⊢
  clear hu hv hnu hnv ha hb hA hB
  go_enter Try.func6, Try.ntmps6
  go_wp2_with fail
  refine (HTB.out _ (Ext.keeps.refl _)).mono ?_
  rintro e w1 ⟨rfl, rfl⟩
  cases tb with
  | true =>
    have HR := Lib.hid (show allA a b = a by rw [HQ.out]; simp)
    go_wp2_with fail
    refine (HCA.out _ (Ext.keeps.refl _)).mono ?_
    rintro e w2 ⟨x, rfl, hown, hx⟩
    have HOW := Lib.hid hown
    have HX := Lib.hid hx
    clear hown hx
    go_wp2_with fail
    go_ret
    exact ⟨_, rfl, by rw [HR.out]; exact RdNds.of_owns HOW.out, HX.out⟩
  | false =>
    go_wp2_with fail
    refine (HTA.out _ (Ext.keeps.refl _)).mono ?_
    rintro e w1 ⟨rfl, rfl⟩
    cases ta with
    | true =>
      have HR := Lib.hid (show allA a b = b by rw [HQ.out]; simp)
      go_wp2_with fail
      refine (HCB.out _ (Ext.keeps.refl _)).mono ?_
      rintro e w2 ⟨x, rfl, hown, hx⟩
      have HOW := Lib.hid hown
      have HX := Lib.hid hx
      clear hown hx
      go_wp2_with fail
      go_ret
      exact ⟨_, rfl, by rw [HR.out]; exact RdNds.of_owns HOW.out, HX.out⟩
    | false =>
      have HR := Lib.hid (show allA a b = [[andN], a, b].flatten by rw [HQ.out]; simp)
      have HWZ := Lib.hid (show (w1.alloc (.cells #[.int .u8 2, .int .i64 0, .int .i64 2, .int .u8 0, .int .i64 0, .string ⟨#[]⟩] 39)).heap.size = w1.heap.size + 1 by simp only [World.alloc, Array.size_push])
      have HX1 := Lib.hid (ext_new w1 (.cells #[.int .u8 2, .int .i64 0, .int .i64 2, .int .u8 0, .int .i64 0, .string ⟨#[]⟩] 39))
      have HN0 := Lib.hid (show RdNds (w1.alloc (.cells #[.int .u8 2, .int .i64 0, .int .i64 2, .int .u8 0, .int .i64 0, .string ⟨#[]⟩] 39)) (.slice (some ⟨w1.heap.size, 0, none⟩) 1 1) [andN] from by
        refine ⟨_, _, rfl, Nat.le_refl _, by unfold maxLen; decide, fun j hj => ⟨_, 0, rfl, fun i y hy => ?_⟩⟩
        have hi : i < 6 := (List.getElem?_eq_some_iff.1 hy).1
        have c := row_new w1 (([andN] : List Nd).flatMap Nd.cells) 39 _ _ ((ndCells [andN] j hj i hi).trans hy)
        rw [add_at] at c
        rw [Nat.add_assoc]
        exact c)
      have HCC := Lib.hid (show ∀ WA : World, WA.heap.size = w1.heap.size + 1 → Ext w1 WA → RdNds WA (.slice (some ⟨w1.heap.size, 0, none⟩) 1 1) [andN] → Calls Try.prog 16 #[.slice (some ⟨w1.heap.size + 1, 0, none⟩) 3 3] (WA.alloc (.cells #[.slice (some ⟨w1.heap.size, 0, none⟩) 1 1, .slice ao A ac, .slice bo B bc] 23)) (FreshN (WA.alloc (.cells #[.slice (some ⟨w1.heap.size, 0, none⟩) 1 1, .slice ao A ac, .slice bo B bc] 23)) [[andN], a, b].flatten) from fun WA hs hx hn => by
        have hx2 := ext_new WA (.cells #[.slice (some ⟨w1.heap.size, 0, none⟩) 1 1, .slice ao A ac, .slice bo B bc] 23)
        refine concatN_any ⟨w1.heap.size + 1, 0, none⟩ 3 3 [.slice (some ⟨w1.heap.size, 0, none⟩) 1 1, .slice ao A ac, .slice bo B bc] [[andN], a, b] _ rfl rfl (by decide) (by decide) (fun i u hi => by rw [← hs]; exact row_new WA [.slice (some ⟨w1.heap.size, 0, none⟩) 1 1, .slice ao A ac, .slice bo B bc] 23 i u hi) ?_ (by have := HLA.out; have := HLB.out; simp; omega)
        intro i u' l' hi' hl'
        match i, hi', hl' with
        | 0, hi', hl' =>
          simp only [List.getElem?_cons_zero, Option.some.injEq] at hi' hl'
          subst hi' hl'
          exact ⟨hn.mono hx2, fun n c h => by cases h⟩
        | 1, hi', hl' =>
          simp only [List.getElem?_cons_zero, List.getElem?_cons_succ, Option.some.injEq] at hi' hl'
          subst hi' hl'
          exact ⟨HU.out.mono (Ext.trans hx hx2), HNU.out⟩
        | 2, hi', hl' =>
          simp only [List.getElem?_cons_zero, List.getElem?_cons_succ, Option.some.injEq] at hi' hl'
          subst hi' hl'
          exact ⟨HV.out.mono (Ext.trans hx hx2), HNV.out⟩
        | i + 3, hi', _ => simp at hi')
      go_wp2_with fail
      generalize w1.alloc (.cells #[.int .u8 2, .int .i64 0, .int .i64 2, .int .u8 0, .int .i64 0, .string ⟨#[]⟩] 39) = WA at HWZ HX1 HN0 ⊢
      have HX2 := Lib.hid (ext_new WA (.cells #[.slice (some ⟨w1.heap.size, 0, none⟩) 1 1, .slice ao A ac, .slice bo B bc] 23))
      refine (HCC.out WA HWZ.out HX1.out HN0.out).mono ?_
      rintro e w2 ⟨x, rfl, hown, hx⟩
      have HOW := Lib.hid hown
      have HX := Lib.hid (Ext.trans (Ext.trans HX1.out HX2.out) hx)
      clear hown hx
      go_wp2_with fail
      go_ret
      exact ⟨_, rfl, by rw [HR.out]; exact RdNds.of_owns HOW.out, HX.out⟩

end
end Go.Proofs.Ytfnmcdjfdhdlmaa

/-
  The contracts of the document's own All and Same.
-/
namespace Go.Proofs.Ytfnmcdjfdhdlmaa
open Go.RowKit Go.BigFrame

theorem neq_nd_self (a : Nd) (w : World) : (binOp .neq 39 a.val a.val).run Try.prog w = .ok (.bool false) w := by
  obtain ⟨o, c, k, ⟨vk, vn, vs⟩⟩ := a
  unfold Nd.val
  simp [go_sem]

set_option maxRecDepth 100000 in
set_option maxHeartbeats 2000000 in
theorem refSame14_self (u v : Value) (l : List Nd) (w : World) (hu : RdNds w u l) (hv : RdNds w v l) (hl : l.length ≤ 1000000) :
    Calls Try.prog 7 #[u, v] w fun e w' => e = .returned (.bool true) ∧ Ext w w' := by
  obtain ⟨ao, ac, rfl, -, -⟩ := hu.shape
  obtain ⟨-, h1, h2, hca⟩ := hu.plain
  obtain ⟨bo, bc, rfl, -, -⟩ := hv.shape
  obtain ⟨-, h3, h4, hcb⟩ := hv.plain
  have HA := Lib.hid hca
  have HB := Lib.hid hcb
  unfold maxLen at h2 h4
  obtain ⟨N, hN⟩ : ∃ N, l.length = N := ⟨_, rfl⟩
  have HN := Lib.hid hN
  rw [hN] at h1 h3 hl ⊢
  clear hu hv hca hcb hN
  go_enter Try.func7, Try.ntmps7
  go_wp2_with fail
  go_loopw [5] (fun i wr => ∃ j : Nat, j ≤ N ∧ i = .int .i64 j ∧ Ext w wr) (fun i _ => N - (intOf i).toNat)
  case atStart => exact ⟨0, Nat.zero_le _, rfl, Ext.keeps.refl _⟩
  case round =>
    obtain ⟨j, hj, rfl, hext⟩ := hrel
    have HE := Lib.hid hext
    clear hext
    by_cases hlt : j < N
    · have hjl : j < l.length := by have := HN.out; omega
      obtain ⟨g, off, rfl, c0, c1, c2, c3, c4, c5⟩ := HA.out j hjl
      obtain ⟨g', off', rfl, d0, d1, d2, d3, d4, d5⟩ := HB.out j hjl
      have HNQ := Lib.hid (neq_nd_self l[j])
      generalize l[j] = nd at c0 c1 c2 c3 c4 c5 d0 d1 d2 d3 d4 d5 HNQ
      obtain ⟨o, c, kd, ⟨vk, vn, vs⟩⟩ := nd
      unfold Nd.val at HNQ
      simp only at c0 c1 c2 c3 c4 c5 d0 d1 d2 d3 d4 d5 HNQ
      have a0 : ∀ z : Later Ext wr.drew, z.val.cell? ⟨g, off + j * 6, none⟩ = some (.int .u8 o) := fun z => ((Ext.trans HE.out (Ext.trans (Ext.drew wr) z.ext)).cell (lt_of_cell c0)).trans c0
      have b0 : ∀ z : Later Ext wr.drew, z.val.cell? ⟨g', off' + j * 6, none⟩ = some (.int .u8 o) := fun z => ((Ext.trans HE.out (Ext.trans (Ext.drew wr) z.ext)).cell (lt_of_cell d0)).trans d0
      have a1 : ∀ z : Later Ext wr.drew, z.val.cell? ⟨g, off + j * 6 + 1, none⟩ = some (.int .i64 c) := fun z => ((Ext.trans HE.out (Ext.trans (Ext.drew wr) z.ext)).cell (lt_of_cell c1)).trans c1
      have b1 : ∀ z : Later Ext wr.drew, z.val.cell? ⟨g', off' + j * 6 + 1, none⟩ = some (.int .i64 c) := fun z => ((Ext.trans HE.out (Ext.trans (Ext.drew wr) z.ext)).cell (lt_of_cell d1)).trans d1
      have a2 : ∀ z : Later Ext wr.drew, z.val.cell? ⟨g, off + j * 6 + 2, none⟩ = some (.int .i64 kd) := fun z => ((Ext.trans HE.out (Ext.trans (Ext.drew wr) z.ext)).cell (lt_of_cell c2)).trans c2
      have b2 : ∀ z : Later Ext wr.drew, z.val.cell? ⟨g', off' + j * 6 + 2, none⟩ = some (.int .i64 kd) := fun z => ((Ext.trans HE.out (Ext.trans (Ext.drew wr) z.ext)).cell (lt_of_cell d2)).trans d2
      have a3 : ∀ z : Later Ext wr.drew, z.val.cell? ⟨g, off + j * 6 + 3, none⟩ = some (.int .u8 vk) := fun z => ((Ext.trans HE.out (Ext.trans (Ext.drew wr) z.ext)).cell (lt_of_cell c3)).trans c3
      have b3 : ∀ z : Later Ext wr.drew, z.val.cell? ⟨g', off' + j * 6 + 3, none⟩ = some (.int .u8 vk) := fun z => ((Ext.trans HE.out (Ext.trans (Ext.drew wr) z.ext)).cell (lt_of_cell d3)).trans d3
      have a4 : ∀ z : Later Ext wr.drew, z.val.cell? ⟨g, off + j * 6 + 4, none⟩ = some (.int .i64 vn) := fun z => ((Ext.trans HE.out (Ext.trans (Ext.drew wr) z.ext)).cell (lt_of_cell c4)).trans c4
      have b4 : ∀ z : Later Ext wr.drew, z.val.cell? ⟨g', off' + j * 6 + 4, none⟩ = some (.int .i64 vn) := fun z => ((Ext.trans HE.out (Ext.trans (Ext.drew wr) z.ext)).cell (lt_of_cell d4)).trans d4
      have a5 : ∀ z : Later Ext wr.drew, z.val.cell? ⟨g, off + j * 6 + 5, none⟩ = some (.string ⟨vs.toArray⟩) := fun z => ((Ext.trans HE.out (Ext.trans (Ext.drew wr) z.ext)).cell (lt_of_cell c5)).trans c5
      have b5 : ∀ z : Later Ext wr.drew, z.val.cell? ⟨g', off' + j * 6 + 5, none⟩ = some (.string ⟨vs.toArray⟩) := fun z => ((Ext.trans HE.out (Ext.trans (Ext.drew wr) z.ext)).cell (lt_of_cell d5)).trans d5
      clear c0 c1 c2 c3 c4 c5 d0 d1 d2 d3 d4 d5 hjl
      have hnq := HNQ.out
      go_wp2_with fail
      refine wp_region_segs Ext Ext.keeps [([0, 1, 2, 3, 4, 5, 6, 7, 8], none)] (by kernel_rfl) (by kernel_rfl) (fun c a a' w e h => (by exact ⟨e ▸ h.1, h.2⟩)) ?_
      simp only [pickSegs, pickOps, List.map_cons, List.map_nil, Option.map_none, Option.getD_some, List.getElem?_toArray, List.getElem?_cons_zero, List.getElem?_cons_succ]
      refine wpSegs_none ?_
      repeat go_big_quiet_step (fail)
      refine wpQuiet_nil (wpSegs_nil ?_)
      clear a0 a1 a2 a3 a4 a5 b0 b1 b2 b3 b4 b5
      go_wp2_with fail
      go_roundw
      case rel => exact ⟨j + 1, by omega, by go_num, Ext.trans HE.out (Ext.drew wr)⟩
      case measure => simp [intOf]; omega
    · go_wp2_with fail
      go_ret
      exact ⟨rfl, HE.out⟩

theorem true_cell {w : World} {ao : Option Addr} {cap : Nat} {n : Nd} (h : RdNds w (.slice ao 1 cap) [n]) : ∃ g off, ao = some ⟨g, off, none⟩ ∧ w.cell? ⟨g, off, none⟩ = some (.int .u8 n.op) := by
  obtain ⟨-, -, -, hc⟩ := h.plain
  obtain ⟨g, off, rfl, c0, -⟩ := hc 0 (by simp)
  simp only [List.getElem_cons_zero, Nat.zero_mul, Nat.add_zero] at c0
  exact ⟨g, off, rfl, c0⟩
/-- What a walk asks of a row that may be a single node: its length, and the node's operation where it is. -/
theorem true_cases (l : List Nd) : (∃ n, l = [n] ∧ n.op = 1 ∧ isTrueA l = true) ∨ (∃ n, l = [n] ∧ n.op ≠ 1 ∧ isTrueA l = false) ∨ (l.length ≠ 1 ∧ isTrueA l = false) := by
  match l with
  | [] => exact .inr (.inr ⟨by decide, rfl⟩)
  | [n] =>
    by_cases h : n.op = 1
    · exact .inl ⟨n, rfl, h, decide_eq_true h⟩
    · exact .inr (.inl ⟨n, rfl, h, decide_eq_false h⟩)
  | _ :: _ :: _ => exact .inr (.inr ⟨by simp, rfl⟩)

set_option maxRecDepth 100000 in
set_option maxHeartbeats 4000000 in
theorem refAll14_any (u v : Value) (a b : List Nd) (w : World) (hu : RdNds w u a) (hnu : NilOkN u) (hv : RdNds w v b) (hnv : NilOkN v) (ha : a.length ≤ 1000) (hb : b.length ≤ 1000) :
    Calls Try.prog 8 #[u, v] w fun e w' => ∃ x, e = .returned x ∧ RdNds w' x (allA a b) ∧ Ext w w' := by
  have HQ := Lib.hid (show allA a b = if isTrueA b = true then a else if isTrueA a = true then b else andN :: (a ++ b) from rfl)
  have HU := Lib.hid hu
  have HV := Lib.hid hv
  have HNU := Lib.hid (fun W (h : RdNds W u a) => nilN_form h hnu)
  have HNV := Lib.hid (fun W (h : RdNds W v b) => nilN_form h hnv)
  obtain ⟨ao, ac, rfl, p1, p2⟩ := hu.shape
  obtain ⟨bo, bc, rfl, p3, p4⟩ := hv.shape
  unfold maxLen at p2 p4
  have HX1 := Lib.hid (ext_new w (.cells (([andN] : List Nd).flatMap Nd.cells).toArray 39))
  have HO1 := Lib.hid (show (w.alloc (.cells (([andN] : List Nd).flatMap Nd.cells).toArray 39)).ownsRow w.heap.size 39 6 (.slice (some ⟨w.heap.size, 0, none⟩) 1 1) ([andN] : List Nd).length (([andN] : List Nd).flatMap Nd.cells) from World.ownsRow_lit w _ 1 (Nat.le_refl _) (by unfold maxLen; decide) rfl)
  rcases true_cases b with ⟨m, eb, hob, htb⟩ | ⟨m, eb, hob, htb⟩ | ⟨hnb, htb⟩
  · have HTB := Lib.hid htb
    have HR := Lib.hid (show allA a b = a by rw [HQ.out, HTB.out]; simp)
    have HV1 := Lib.hid (true_cell (by rw [eb] at hv; exact hv))
    obtain ⟨g2, off2, rfl, f1⟩ := HV1.out
    rw [hob] at f1
    have hlb : b.length = 1 := by rw [eb]; rfl
    rw [hlb] at p3 ⊢
    clear hu hv hnu hnv ha hb htb eb hob hlb HV HNU HNV HX1 HO1 HV1
    go_enter Try.func8, Try.ntmps8
    go_wp2_with fail
    go_ret
    exact ⟨_, rfl, by rw [HR.out]; exact HU.out, Ext.keeps.refl _⟩
  · have HTB := Lib.hid htb
    have HV1 := Lib.hid (true_cell (by rw [eb] at hv; exact hv))
    obtain ⟨g2, off2, rfl, f1⟩ := HV1.out
    have r1 : (m.op == (1 : Int)) = false := beq_eq_false_iff_ne.2 hob
    have hlb : b.length = 1 := by rw [eb]; rfl
    have hv1 := hv
    clear htb eb hob HV1
    rcases true_cases a with ⟨n, ea, ho, hta⟩ | ⟨n, ea, ho, hta⟩ | ⟨hna, hta⟩
    · have HTA := Lib.hid hta
      have HR := Lib.hid (show allA a b = b by rw [HQ.out, HTB.out, HTA.out]; simp)
      have HU1 := Lib.hid (true_cell (by rw [ea] at hu; exact hu))
      obtain ⟨g1, off1, rfl, e1⟩ := HU1.out
      rw [ho] at e1
      have hla : a.length = 1 := by rw [ea]; rfl
      rw [hla] at p1 ⊢
      rw [hlb] at p3 HV ⊢
      clear hu hv hnu hnv ha hb hta ea ho hla hlb hv1 HU HNU HNV HX1 HO1 HU1
      go_enter Try.func8, Try.ntmps8
      go_wp2_with fail
      go_ret
      exact ⟨_, rfl, by rw [HR.out]; exact HV.out, Ext.keeps.refl _⟩
    · have HTA := Lib.hid hta
      have HU1 := Lib.hid (true_cell (by rw [ea] at hu; exact hu))
      obtain ⟨g1, off1, rfl, e1⟩ := HU1.out
      have q1 : (n.op == (1 : Int)) = false := beq_eq_false_iff_ne.2 ho
      have hla : a.length = 1 := by rw [ea]; rfl
      clear hta ea ho HU1
      have HR := Lib.hid (show allA a b = ([andN] ++ a) ++ b by rw [HQ.out, HTB.out, HTA.out]; simp)
      have HLA := Lib.hid ha
      have HLB := Lib.hid hb
      obtain ⟨A, hA⟩ : ∃ A, a.length = A := ⟨_, rfl⟩
      obtain ⟨B, hB⟩ : ∃ B, b.length = B := ⟨_, rfl⟩
      rw [hA] at HU HNU p1
      rw [hB] at HV HNV p3
      try rw [hA]
      try rw [hB]
      have hA1 : A = 1 := by rw [← hA]; exact hla
      clear hla
      subst hA1
      have hB1 : B = 1 := by rw [← hB]; exact hlb
      subst hB1
      clear hu hv hv1 hlb hnu hnv ha hb hA hB
      go_enter Try.func8, Try.ntmps8
      go_upto_region 6 with fail
      generalize hWA : w.alloc (.cells #[.int .u8 2, .int .i64 0, .int .i64 2, .int .u8 0, .int .i64 0, .string ⟨#[]⟩] 39) = WA
      have HOA := Lib.hid (show WA.ownsRow w.heap.size 39 6 (.slice (some ⟨w.heap.size, 0, none⟩) 1 1) ([andN] : List Nd).length (([andN] : List Nd).flatMap Nd.cells) by rw [← hWA]; exact HO1.out)
      have HXA := Lib.hid (show Ext w WA by rw [← hWA]; exact HX1.out)
      clear hWA
      have HUA := Lib.hid (HU.out.mono HXA.out)
      have hsz := HXA.out.size
      go_wp2_with (at_builtin; first | (refine wpList_append_nds rfl (.tmp 30) (.tmp 31) rfl w.heap.size _ [andN] _ a rfl HOA.out rfl HUA.out (HNU.out _ HUA.out) (by decide) (by have := HLA.out; omega) hsz ?_; intro v2 w2 hown2 hbel2; have HOW := Lib.hid hown2; have HBL := Lib.hid (Below.trans HXA.out hbel2); clear hown2 hbel2; have HVB := Lib.hid (HV.out.mono HBL.out); have hsz2 := HBL.out.size) | (go_must (refine wpList_append_nds rfl (.tmp 33) (.tmp 34) rfl w.heap.size _ ([andN] ++ a) _ b rfl HOW.out rfl HVB.out (HNV.out _ HVB.out) (by have := HLA.out; simp; omega) (by have := HLB.out; omega) hsz2 ?_); intro v3 w3 hown3 hbel3; have HO3 := Lib.hid hown3; have HB3 := Lib.hid (Below.trans HBL.out hbel3); clear hown3 hbel3))
      go_ret
      exact ⟨_, rfl, by rw [HR.out]; exact RdNds.of_owns HO3.out, HB3.out⟩
    · have HTA := Lib.hid hta
      have q2 : ((a.length : Int) == (1 : Int)) = false := beq_eq_false_iff_ne.2 (by omega)
      have q2' : (a.length == 1) = false := beq_eq_false_iff_ne.2 hna
      clear hta hna
      have HR := Lib.hid (show allA a b = ([andN] ++ a) ++ b by rw [HQ.out, HTB.out, HTA.out]; simp)
      have HLA := Lib.hid ha
      have HLB := Lib.hid hb
      obtain ⟨A, hA⟩ : ∃ A, a.length = A := ⟨_, rfl⟩
      obtain ⟨B, hB⟩ : ∃ B, b.length = B := ⟨_, rfl⟩
      rw [hA] at HU HNU p1
      rw [hB] at HV HNV p3
      try rw [hA]
      try rw [hB]
      rw [hA] at q2 q2'
      have hB1 : B = 1 := by rw [← hB]; exact hlb
      subst hB1
      clear hu hv hv1 hlb hnu hnv ha hb hA hB
      go_enter Try.func8, Try.ntmps8
      go_upto_region 6 with fail
      generalize hWA : w.alloc (.cells #[.int .u8 2, .int .i64 0, .int .i64 2, .int .u8 0, .int .i64 0, .string ⟨#[]⟩] 39) = WA
      have HOA := Lib.hid (show WA.ownsRow w.heap.size 39 6 (.slice (some ⟨w.heap.size, 0, none⟩) 1 1) ([andN] : List Nd).length (([andN] : List Nd).flatMap Nd.cells) by rw [← hWA]; exact HO1.out)
      have HXA := Lib.hid (show Ext w WA by rw [← hWA]; exact HX1.out)
      clear hWA
      have HUA := Lib.hid (HU.out.mono HXA.out)
      have hsz := HXA.out.size
      go_wp2_with (at_builtin; first | (refine wpList_append_nds rfl (.tmp 30) (.tmp 31) rfl w.heap.size _ [andN] _ a rfl HOA.out rfl HUA.out (HNU.out _ HUA.out) (by decide) (by have := HLA.out; omega) hsz ?_; intro v2 w2 hown2 hbel2; have HOW := Lib.hid hown2; have HBL := Lib.hid (Below.trans HXA.out hbel2); clear hown2 hbel2; have HVB := Lib.hid (HV.out.mono HBL.out); have hsz2 := HBL.out.size) | (go_must (refine wpList_append_nds rfl (.tmp 33) (.tmp 34) rfl w.heap.size _ ([andN] ++ a) _ b rfl HOW.out rfl HVB.out (HNV.out _ HVB.out) (by have := HLA.out; simp; omega) (by have := HLB.out; omega) hsz2 ?_); intro v3 w3 hown3 hbel3; have HO3 := Lib.hid hown3; have HB3 := Lib.hid (Below.trans HBL.out hbel3); clear hown3 hbel3))
      go_ret
      exact ⟨_, rfl, by rw [HR.out]; exact RdNds.of_owns HO3.out, HB3.out⟩
  · have HTB := Lib.hid htb
    have r2 : ((b.length : Int) == (1 : Int)) = false := beq_eq_false_iff_ne.2 (by omega)
    have r2' : (b.length == 1) = false := beq_eq_false_iff_ne.2 hnb
    clear htb hnb
    rcases true_cases a with ⟨n, ea, ho, hta⟩ | ⟨n, ea, ho, hta⟩ | ⟨hna, hta⟩
    · have HTA := Lib.hid hta
      have HR := Lib.hid (show allA a b = b by rw [HQ.out, HTB.out, HTA.out]; simp)
      have HU1 := Lib.hid (true_cell (by rw [ea] at hu; exact hu))
      obtain ⟨g1, off1, rfl, e1⟩ := HU1.out
      rw [ho] at e1
      have hla : a.length = 1 := by rw [ea]; rfl
      rw [hla] at p1 ⊢
      clear hu hv hnu hnv ha hb hta ea ho hla HU HNU HNV HX1 HO1 HU1
      go_enter Try.func8, Try.ntmps8
      go_wp2_with fail
      go_ret
      exact ⟨_, rfl, by rw [HR.out]; exact HV.out, Ext.keeps.refl _⟩
    · have HTA := Lib.hid hta
      have HU1 := Lib.hid (true_cell (by rw [ea] at hu; exact hu))
      obtain ⟨g1, off1, rfl, e1⟩ := HU1.out
      have q1 : (n.op == (1 : Int)) = false := beq_eq_false_iff_ne.2 ho
      have hla : a.length = 1 := by rw [ea]; rfl
      clear hta ea ho HU1
      have HR := Lib.hid (show allA a b = ([andN] ++ a) ++ b by rw [HQ.out, HTB.out, HTA.out]; simp)
      have HLA := Lib.hid ha
      have HLB := Lib.hid hb
      obtain ⟨A, hA⟩ : ∃ A, a.length = A := ⟨_, rfl⟩
      obtain ⟨B, hB⟩ : ∃ B, b.length = B := ⟨_, rfl⟩
      rw [hA] at HU HNU p1
      rw [hB] at HV HNV p3 r2 r2'
      try rw [hA]
      try rw [hB]
      have hA1 : A = 1 := by rw [← hA]; exact hla
      clear hla
      subst hA1
      clear hu hv hnu hnv ha hb hA hB
      go_enter Try.func8, Try.ntmps8
      go_upto_region 6 with fail
      generalize hWA : w.alloc (.cells #[.int .u8 2, .int .i64 0, .int .i64 2, .int .u8 0, .int .i64 0, .string ⟨#[]⟩] 39) = WA
      have HOA := Lib.hid (show WA.ownsRow w.heap.size 39 6 (.slice (some ⟨w.heap.size, 0, none⟩) 1 1) ([andN] : List Nd).length (([andN] : List Nd).flatMap Nd.cells) by rw [← hWA]; exact HO1.out)
      have HXA := Lib.hid (show Ext w WA by rw [← hWA]; exact HX1.out)
      clear hWA
      have HUA := Lib.hid (HU.out.mono HXA.out)
      have hsz := HXA.out.size
      go_wp2_with (at_builtin; first | (refine wpList_append_nds rfl (.tmp 30) (.tmp 31) rfl w.heap.size _ [andN] _ a rfl HOA.out rfl HUA.out (HNU.out _ HUA.out) (by decide) (by have := HLA.out; omega) hsz ?_; intro v2 w2 hown2 hbel2; have HOW := Lib.hid hown2; have HBL := Lib.hid (Below.trans HXA.out hbel2); clear hown2 hbel2; have HVB := Lib.hid (HV.out.mono HBL.out); have hsz2 := HBL.out.size) | (go_must (refine wpList_append_nds rfl (.tmp 33) (.tmp 34) rfl w.heap.size _ ([andN] ++ a) _ b rfl HOW.out rfl HVB.out (HNV.out _ HVB.out) (by have := HLA.out; simp; omega) (by have := HLB.out; omega) hsz2 ?_); intro v3 w3 hown3 hbel3; have HO3 := Lib.hid hown3; have HB3 := Lib.hid (Below.trans HBL.out hbel3); clear hown3 hbel3))
      go_ret
      exact ⟨_, rfl, by rw [HR.out]; exact RdNds.of_owns HO3.out, HB3.out⟩
    · have HTA := Lib.hid hta
      have q2 : ((a.length : Int) == (1 : Int)) = false := beq_eq_false_iff_ne.2 (by omega)
      have q2' : (a.length == 1) = false := beq_eq_false_iff_ne.2 hna
      clear hta hna
      have HR := Lib.hid (show allA a b = ([andN] ++ a) ++ b by rw [HQ.out, HTB.out, HTA.out]; simp)
      have HLA := Lib.hid ha
      have HLB := Lib.hid hb
      obtain ⟨A, hA⟩ : ∃ A, a.length = A := ⟨_, rfl⟩
      obtain ⟨B, hB⟩ : ∃ B, b.length = B := ⟨_, rfl⟩
      rw [hA] at HU HNU p1
      rw [hB] at HV HNV p3 r2 r2'
      try rw [hA]
      try rw [hB]
      rw [hA] at q2 q2'
      clear hu hv hnu hnv ha hb hA hB
      go_enter Try.func8, Try.ntmps8
      go_upto_region 6 with fail
      generalize hWA : w.alloc (.cells #[.int .u8 2, .int .i64 0, .int .i64 2, .int .u8 0, .int .i64 0, .string ⟨#[]⟩] 39) = WA
      have HOA := Lib.hid (show WA.ownsRow w.heap.size 39 6 (.slice (some ⟨w.heap.size, 0, none⟩) 1 1) ([andN] : List Nd).length (([andN] : List Nd).flatMap Nd.cells) by rw [← hWA]; exact HO1.out)
      have HXA := Lib.hid (show Ext w WA by rw [← hWA]; exact HX1.out)
      clear hWA
      have HUA := Lib.hid (HU.out.mono HXA.out)
      have hsz := HXA.out.size
      go_wp2_with (at_builtin; first | (refine wpList_append_nds rfl (.tmp 30) (.tmp 31) rfl w.heap.size _ [andN] _ a rfl HOA.out rfl HUA.out (HNU.out _ HUA.out) (by decide) (by have := HLA.out; omega) hsz ?_; intro v2 w2 hown2 hbel2; have HOW := Lib.hid hown2; have HBL := Lib.hid (Below.trans HXA.out hbel2); clear hown2 hbel2; have HVB := Lib.hid (HV.out.mono HBL.out); have hsz2 := HBL.out.size) | (go_must (refine wpList_append_nds rfl (.tmp 33) (.tmp 34) rfl w.heap.size _ ([andN] ++ a) _ b rfl HOW.out rfl HVB.out (HNV.out _ HVB.out) (by have := HLA.out; simp; omega) (by have := HLB.out; omega) hsz2 ?_); intro v3 w3 hown3 hbel3; have HO3 := Lib.hid hown3; have HB3 := Lib.hid (Below.trans HBL.out hbel3); clear hown3 hbel3))
      go_ret
      exact ⟨_, rfl, by rw [HR.out]; exact RdNds.of_owns HO3.out, HB3.out⟩

end Go.Proofs.Ytfnmcdjfdhdlmaa

/-
  AskAll: its walk.
-/
namespace Go.Proofs.Ytfnmcdjfdhdlmaa
open Go.RowKit Go.BigFrame

theorem andN_fit : andN.fits ∧ andN.v.s.length ≤ 5000 := ⟨⟨by decide, by decide, by decide, by decide, by decide, by decide, ⟨by decide, by decide, by decide, by decide⟩⟩, by decide⟩
theorem fit_all {a b : List Nd} (ha : FitN 5000 a) (hb : FitN 5000 b) : FitN 5000 (allA a b) := by
  intro x hx
  unfold allA at hx
  split at hx
  · exact ha x hx
  · split at hx
    · exact hb x hx
    · rcases List.mem_cons.1 hx with rfl | hx
      · exact andN_fit
      · rcases List.mem_append.1 hx with hx | hx
        · exact ha x hx
        · exact hb x hx
theorem len_all (a b : List Nd) : (allA a b).length ≤ a.length + b.length + 1 := by
  unfold allA
  split
  · omega
  · split
    · omega
    · rw [List.length_cons, List.length_append]; omega

set_option maxRecDepth 100000 in
set_option maxHeartbeats 8000000 in
theorem askAll_walk (u0 : Value) (K0 : List UInt8) (u1 : Value) (a : List Nd) (u2 : Value) (b : List Nd) (u3 : Value) (r : List V) (w : World) (h0 : Rd w u0 K0) (h1 : RdNds w u1 a) (hf1 : ∀ x ∈ a, x.fits ∧ x.v.s.length ≤ maxLen) (hz1 : NilOkN u1)
    (h2 : RdNds w u2 b) (hf2 : ∀ x ∈ b, x.fits ∧ x.v.s.length ≤ maxLen) (hz2 : NilOkN u2) (h3 : RdVals w u3 r) (hf3 : ∀ x ∈ r, x.fits ∧ x.s.length ≤ maxLen) (_hz3 : NilOkN u3) :
    Calls Try.prog 3 #[u0, u1, u2, u3] w fun e w' => e = .returned (.bool true) ∧ Below w.heap.size w w' := by
  obtain ⟨K, hk⟩ : ∃ K : List Int, RdV w u0 (K.map (Value.int .u8)) := ⟨K0.map fun c => (c.toNat : Int), by
    unfold Rd at h0
    have e : K0.map bv = (K0.map fun c => (c.toNat : Int)).map (Value.int .u8) := by rw [List.map_map]; rfl
    rwa [e] at h0⟩
  have hT : ∀ W, Tabs W := fun _ => trivial
  obtain ⟨ko, kc, rfl, k1, k2, -⟩ := RdV.cellsAt hk
  rw [List.length_map] at *
  obtain ⟨ao, ac, rfl, n1, n2⟩ := h1.shape
  obtain ⟨bo, bc, rfl, n3, n4⟩ := h2.shape
  obtain ⟨vo, vc, rfl, n5, n6⟩ := h3.shape
  have HK := Lib.hid hk
  have HA := Lib.hid h1
  have HB := Lib.hid h2
  have HV := Lib.hid h3
  have HZ1 := Lib.hid hz1
  have HZ2 := Lib.hid hz2
  have HS1 := Lib.hid (fun W (h : Ext w W) => small14_any _ a W (h1.mono h) (fun x hx => by have := hf1 x hx; unfold maxLen at this; exact ⟨this.1, by omega⟩))
  have HS2 := Lib.hid (fun W (h : Ext w W) => small14_any _ b W (h2.mono h) (fun x hx => by have := hf2 x hx; unfold maxLen at this; exact ⟨this.1, by omega⟩))
  have HF1 := Lib.hid (show (∀ x ∈ a, x.v.s.length ≤ 200) → FitN 5000 a from fun h x hx => ⟨(hf1 x hx).1, by have := h x hx; omega⟩)
  have HF2 := Lib.hid (show (∀ x ∈ b, x.v.s.length ≤ 200) → FitN 5000 b from fun h x hx => ⟨(hf2 x hx).1, by have := h x hx; omega⟩)
  have HF3 := Lib.hid (show FitV 9223372036854775807 r from fun y hy => by have h := hf3 y hy; unfold maxLen at h; exact ⟨h.1, by omega⟩)
  obtain ⟨N, hN⟩ : ∃ N, K.length = N := ⟨_, rfl⟩
  obtain ⟨A, hA⟩ : ∃ A, a.length = A := ⟨_, rfl⟩
  obtain ⟨B, hB⟩ : ∃ B, b.length = B := ⟨_, rfl⟩
  obtain ⟨R, hR⟩ : ∃ R, r.length = R := ⟨_, rfl⟩
  have HNE := Lib.hid hN
  have HAE := Lib.hid hA
  have HBE := Lib.hid hB
  rw [hN] at k1 HK ⊢
  rw [hA] at n1 HA HS1 HZ1 ⊢
  rw [hB] at n3 HB HS2 HZ2 ⊢
  rw [hR] at n5 HV ⊢
  have hKm : N ≤ 9223372036854775807 := by unfold maxLen at k2; omega
  unfold maxLen at k2 n2 n4 n6
  have HT := Lib.hid hT
  clear h0 hk h1 hf1 hz1 h2 hf2 hz2 h3 hf3 hN hA hB hR hT
  go_enter Try.func3, Try.ntmps3
  go_wp2_with fail
  refine (shown14_any _ (HT.out _)).mono ?_
  rintro e w1 ⟨rfl, hx⟩
  have HX1 := Lib.hid hx
  clear hx
  go_wp2_with fail
  refine (HS1.out _ HX1.out).mono ?_
  rintro e w2 ⟨⟨b1, rfl, hb⟩, hx⟩
  have HX2 := Lib.hid (Ext.trans HX1.out hx)
  have HB1 := Lib.hid hb
  clear hx hb
  cases b1 with
  | false =>
    go_wp2_with fail
    go_ret
    exact ⟨rfl, HX2.out⟩
  | true =>
  have HSM1 := Lib.hid (HB1.out (by first | rfl | trivial))
  have HFN1 := Lib.hid (HF1.out HSM1.out.2)
  go_wp2_with fail
  refine (HS2.out _ HX2.out).mono ?_
  rintro e w3 ⟨⟨b2, rfl, hb⟩, hx⟩
  have HX3 := Lib.hid (Ext.trans HX2.out hx)
  have HB2 := Lib.hid hb
  clear hx hb
  cases b2 with
  | false =>
    go_wp2_with fail
    go_ret
    exact ⟨rfl, HX3.out⟩
  | true =>
  have HSM2 := Lib.hid (HB2.out (by first | rfl | trivial))
  have HFN2 := Lib.hid (HF2.out HSM2.out.2)
  by_cases h20 : 20 < N
  · have d : decide (20 < N) = true := decide_eq_true h20
    have d' : decide ((20 : Int) < (N : Int)) = true := decide_eq_true (by omega)
    clear h20
    go_wp2_with fail
    go_ret
    exact ⟨rfl, HX3.out⟩
  · have d : decide (20 < N) = false := decide_eq_false h20
    have d' : decide ((20 : Int) < (N : Int)) = false := decide_eq_false (by omega)
    have HKS := Lib.hid (show K.length ≤ 1000000 by have := HNE.out; omega)
    have HAL := Lib.hid (show a.length ≤ 1000 by have := HSM1.out.1; have := HAE.out; omega)
    have HBL := Lib.hid (show b.length ≤ 1000 by have := HSM2.out.1; have := HBE.out; omega)
    have HLL := Lib.hid (show (allA a b).length ≤ 1000000 from Nat.le_trans (len_all a b) (by have := HAL.out; have := HBL.out; omega))
    clear h20
    go_wp2_with fail
    refine (pAll14_any _ _ a b _ (HA.out.mono HX3.out) HZ1.out (HB.out.mono HX3.out) HZ2.out HAL.out HBL.out).mono ?_
    rintro e w4 ⟨x4, rfl, hr, hx⟩
    have HX4 := Lib.hid (Ext.trans HX3.out hx)
    have HL4 := Lib.hid hr
    obtain ⟨lo, lc, rfl, l1, l2⟩ := hr.shape
    clear hx hr
    go_wp2_with fail
    refine (refAll14_any _ _ a b _ (HA.out.mono HX4.out) HZ1.out (HB.out.mono HX4.out) HZ2.out HAL.out HBL.out).mono ?_
    rintro e w5 ⟨x5, rfl, hr, hx⟩
    have HX5 := Lib.hid (Ext.trans HX4.out hx)
    have HL5 := Lib.hid hr
    have HL45 := Lib.hid (HL4.out.mono hx)
    obtain ⟨mo, mc, rfl, m1, m2⟩ := hr.shape
    clear hx hr
    have HFA := Lib.hid (fit_all HFN1.out HFN2.out)
    have HRA := Lib.hid (fun h1 h2 h3 => right_all (ok := okP) (kinds := K) (a := a) (b := b) h1 h2 h3)
    have HEA := Lib.hid (fun (h1 : rightA okP K a) (h2 : rightA okP K b) (hk : r.length = K.length) => (show evalS isB (allA a b) r = andT (evalS isB a r) (evalS isB b r) from eval_all isB r h1.2.2 h2.2.2 (judge_eval isB okP K a r h1 hk).2 (judge_eval isB okP K b r h2 hk).2))
    generalize allA a b = l at *
    obtain ⟨L, hL⟩ : ∃ L, l.length = L := ⟨_, rfl⟩
    have HLE := Lib.hid hL
    rw [hL] at HL4 HL5 HL45 l1 m1 ⊢
    unfold maxLen at l2 m2
    clear hL
    go_wp2_with fail
    refine (refSame14_self _ _ l _ HL45.out HL5.out HLL.out).mono ?_
    rintro e w6 ⟨rfl, hx⟩
    have HX6 := Lib.hid (Ext.trans HX5.out hx)
    have HL6 := Lib.hid (HL45.out.mono hx)
    clear hx
    go_wp2_with fail
    refine (pRight14_any _ _ K a _ (HK.out.mono HX6.out) HKS.out (HA.out.mono HX6.out) HFN1.out (HT.out _)).mono ?_
    rintro e w7 ⟨rfl, hx⟩
    have HX7 := Lib.hid (Ext.trans HX6.out hx)
    have HL7 := Lib.hid (HL6.out.mono hx)
    clear hx
    by_cases hra : rightA okP K a
    · have HRA1 := Lib.hid hra
      have HE1 := Lib.hid (show errA okP K a = 0 from if_pos hra)
      rw [HE1.out]
      clear hra
      go_wp2_with fail
      refine (pRight14_any _ _ K b _ (HK.out.mono HX7.out) HKS.out (HB.out.mono HX7.out) HFN2.out (HT.out _)).mono ?_
      rintro e w8 ⟨rfl, hx⟩
      have HX8 := Lib.hid (Ext.trans HX7.out hx)
      have HL8 := Lib.hid (HL7.out.mono hx)
      clear hx
      by_cases hrb : rightA okP K b
      · have HRB1 := Lib.hid hrb
        have HE2 := Lib.hid (show errA okP K b = 0 from if_pos hrb)
        rw [HE2.out]
        clear hrb
        by_cases h40 : 40 < L
        · have d4 : decide (40 < L) = true := decide_eq_true h40
          have d4' : decide ((40 : Int) < (L : Int)) = true := decide_eq_true (by omega)
          clear h40
          go_wp2_with fail
          go_ret
          exact ⟨rfl, HX8.out⟩
        · have d4 : decide (40 < L) = false := decide_eq_false h40
          have d4' : decide ((40 : Int) < (L : Int)) = false := decide_eq_false (by omega)
          have HRL := Lib.hid (HRA.out HRA1.out HRB1.out (by have := HLE.out; omega))
          have HE3 := Lib.hid (show errA okP K l = 0 from if_pos HRL.out)
          clear h40
          go_wp2_with fail
          refine (pRight14_any _ _ K l _ (HK.out.mono HX8.out) HKS.out HL8.out HFA.out (HT.out _)).mono ?_
          rintro e w9 ⟨rfl, hx⟩
          have HX9 := Lib.hid (Ext.trans HX8.out hx)
          have HL9 := Lib.hid (HL8.out.mono hx)
          clear hx
          rw [HE3.out]
          go_wp2_with fail
          refine (fits14_any _ _ K r _ (HK.out.mono HX9.out) (by rw [HNE.out]; exact hKm) (HV.out.mono HX9.out) HF3.out).mono ?_
          rintro e w10 ⟨⟨b3, rfl, hb3⟩, hx⟩
          have HX10 := Lib.hid (Ext.trans HX9.out hx)
          have HL10 := Lib.hid (HL9.out.mono hx)
          have HB3 := Lib.hid hb3
          clear hx hb3
          cases b3 with
          | false =>
            go_wp2_with fail
            go_ret
            exact ⟨rfl, HX10.out⟩
          | true =>
            have HFT := Lib.hid (HB3.out (by first | rfl | trivial))
            have HFR := Lib.hid (show FitV 5000 r from fun y hy => ⟨(HF3.out y hy).1, by have := (HFT.out.2.2 y hy).1; omega⟩)
            have HEQ := Lib.hid (HEA.out HRA1.out HRB1.out HFT.out.2.1)
            have HTA := Lib.hid (judge_eval isB okP K a r HRA1.out HFT.out.2.1).2
            have HTB := Lib.hid (judge_eval isB okP K b r HRB1.out HFT.out.2.1).2
            go_wp2_with fail
            refine (pEval14_any _ _ K l r _ HL10.out HFA.out (HV.out.mono HX10.out) HFR.out (HT.out _) HRL.out HFT.out.2.1).mono ?_
            rintro e w11 ⟨rfl, hx⟩
            have HX11 := Lib.hid (Ext.trans HX10.out hx)
            clear hx
            go_wp2_with fail
            refine (pEval14_any _ _ K a r _ (HA.out.mono HX11.out) HFN1.out (HV.out.mono HX11.out) HFR.out (HT.out _) HRA1.out HFT.out.2.1).mono ?_
            rintro e w12 ⟨rfl, hx⟩
            have HX12 := Lib.hid (Ext.trans HX11.out hx)
            clear hx
            go_wp2_with fail
            refine (pEval14_any _ _ K b r _ (HB.out.mono HX12.out) HFN2.out (HV.out.mono HX12.out) HFR.out (HT.out _) HRB1.out HFT.out.2.1).mono ?_
            rintro e w13 ⟨rfl, hx⟩
            have HX13 := Lib.hid (Ext.trans HX12.out hx)
            clear hx
            rw [HEQ.out]
            generalize evalS isB a r = ea at *
            generalize evalS isB b r = eb at *
            go_wp2_with fail
            refine (And_any ea eb (tri_bounds HTA.out) (tri_bounds HTB.out) _).mono ?_
            rintro e w14 ⟨rfl, hx⟩
            have HX14 := Lib.hid (Ext.trans HX13.out hx)
            clear hx
            generalize andT ea eb = z
            have hz : (z == z) = true := by simp
            go_wp2_with fail
            go_ret
            exact ⟨rfl, HX14.out⟩
      · have HE2 := Lib.hid (show errA okP K b = 140 from if_neg hrb)
        rw [HE2.out]
        clear hrb
        go_wp2_with fail
        go_ret
        exact ⟨rfl, HX8.out⟩
    · have HE1 := Lib.hid (show errA okP K a = 140 from if_neg hra)
      rw [HE1.out]
      clear hra
      go_wp2_with fail
      go_ret
      exact ⟨rfl, HX7.out⟩

end Go.Proofs.Ytfnmcdjfdhdlmaa

/-
  What an argument that came in as a value of the document (a struct of a kind, a number, a text) is to a walk.
-/
namespace Go.Proofs.Ytfnmcdjfdhdlmaa
open Go.ChangeShapes Go.WideShapes Go.ChangeAt Go.RowKit Go.Joins Go.Deep

section
variable {H : Type} {enc : TypeId × Value → H} {P : Program} {w : World} {base : Nat} {held : Bool}

theorem read_val {r : Reach} {b0 : Nat} {t : TypeId} {f0 f1 f2 : Field} {v : Value} {d : DataW H} {p : List MemPlace} (hs : P.underlying t = some (.struct #[f0, f1, f2])) (h0 : P.underlying f0.type = some (.int .u8)) (h1 : P.underlying f1.type = some (.int .i64)) (h2 : P.underlying f2.type = some .string)
    (hone : oneCellFields P #[f0, f1, f2] = true) (hC : P.cellsOf t = 3)
    (hv : Value.okWide P w r b0 t v) (h : DataW.Trod enc P w base (fun _ => true) held t v d p) :
    ∃ a : V, v = a.val ∧ a.fits ∧ a.s.length ≤ maxLen := by
  obtain ⟨v0, v1, v2, y0, y1, y2, n, rfl, _, _, t0, t1, t2⟩ := open_agg3 hs hone hC hv h
  obtain ⟨z0, e0, _, w0⟩ := DataW.trod_int h0 t0
  obtain ⟨z1, e1, _, w1⟩ := DataW.trod_int h1 t1
  obtain ⟨s, e2, _, w2⟩ := DataW.trod_string h2 t2
  simp only [List.cons.injEq, and_true] at e0 e1 e2
  subst e0 e1 e2
  have b0 := bounds_u8 w0
  have b1 := bounds_i64 w1
  refine ⟨⟨z0, z1, s.data.toList⟩, ?_, ⟨b0.1, b0.2, b1.1, b1.2⟩, ?_⟩
  · unfold V.val
    cases s
    simp
  · show s.data.toList.length ≤ maxLen
    cases s
    simpa [ByteArray.size] using w2

end
end Go.Proofs.Ytfnmcdjfdhdlmaa

/-
  What an argument that came in as a row of values of the document is to a walk.
-/
namespace Go.Proofs.Ytfnmcdjfdhdlmaa
open Go.ChangeShapes Go.WideShapes Go.ChangeAt Go.RowKit Go.Joins Go.Deep

section
variable {H : Type} {enc : TypeId × Value → H} {P : Program} {w : World} {base : Nat} {held : Bool}

theorem read_vals {t e : TypeId} {f0 f1 f2 : Field} {v : Value} {d : DataW H} {ps : List MemPlace} (ht : P.underlying t = some (.slice e)) (hs : P.underlying e = some (.struct #[f0, f1, f2])) (h0 : P.underlying f0.type = some (.int .u8)) (h1 : P.underlying f1.type = some (.int .i64)) (h2 : P.underlying f2.type = some .string)
    (hone : oneCellFields P #[f0, f1, f2] = true) (hC : P.cellsOf e = 3) (hv : v.cells.toList = [v]) (h : DataW.Trod enc P w base (fun _ => true) held t v d ps) :
    ∃ vs : List V, RdVals w v vs ∧ ∀ x ∈ vs, x.fits ∧ x.s.length ≤ maxLen := by
  obtain ⟨fuel, hf⟩ := h
  rw [hv] at hf
  rcases open_slice ht hf with ⟨hcs, _⟩ | ⟨a, len, cap, m, n, D, Pl, hcs, _, hl, hm, hmm, _, hi⟩
  · obtain rfl : v = .slice none 0 0 := by simpa using hcs
    exact ⟨[], ⟨none, 0, rfl, Nat.le_refl _, by simp [maxLen], fun j hj => by simp at hj⟩, by simp⟩
  · obtain rfl : v = .slice (some a) len cap := by simpa using hcs
    have hmc : m = cap := by simpa using hmm
    have key : ∀ i, i < len → ∃ x : V, (x.fits ∧ x.s.length ≤ maxLen) ∧ ∀ j y, x.cells[j]? = some y → w.cell? ((a.add (i * 3)).add j) = some y := fun i hi' => by
      obtain ⟨cs, hc, ht'⟩ := hi i (by omega)
      rw [hC] at hc
      obtain ⟨_, hcl, hat⟩ := World.cells?_some hc
      match cs, hcl with
      | [c0, c1, c2], _ =>
        obtain ⟨y0, y1, y2, n', _, _, k0, k1, k2⟩ := trod_struct3 hs ht'
        obtain ⟨o0, q0⟩ := hone_of hone 0 f0 rfl
        obtain ⟨o1, q1⟩ := hone_of hone 1 f1 rfl
        obtain ⟨o2, q2⟩ := hone_of hone 2 f2 rfl
        rw [o0, q0] at k0
        rw [o1, q1] at k1
        rw [o2, q2] at k2
        obtain ⟨z0, e0, _, w0⟩ := DataW.trod_int h0 k0
        obtain ⟨z1, e1, _, w1⟩ := DataW.trod_int h1 k1
        obtain ⟨s, e2, _, w2⟩ := DataW.trod_string h2 k2
        have e0' : c0 = .int .u8 z0 := by simpa using e0
        have e1' : c1 = .int .i64 z1 := by simpa using e1
        have e2' : c2 = .string s := by simpa using e2
        subst e0' e1' e2'
        have b0 := bounds_u8 w0
        have b1 := bounds_i64 w1
        have hsl : s.data.toList.length = s.size := Array.length_toList
        have hss : (⟨s.data.toList.toArray⟩ : ByteArray) = s := by cases s; simp
        refine ⟨⟨z0, z1, s.data.toList⟩, ⟨⟨b0.1, b0.2, b1.1, b1.2⟩, by show s.data.toList.length ≤ _; rw [hsl]; exact w2⟩, fun j y hj => ?_⟩
        unfold V.cells at hj
        simp only [hss] at hj
        have hj3 : j < 3 := by
          have := (List.getElem?_eq_some_iff.1 hj).1
          simpa using this
        rw [hat j hj3]
        exact hj
    have hall : ∃ vs : List V, vs.length = len ∧ ∀ i, (hi : i < vs.length) → (vs[i].fits ∧ vs[i].s.length ≤ maxLen) ∧ ∀ j y, (vs[i].cells)[j]? = some y → w.cell? ((a.add (i * 3)).add j) = some y := by
      refine ⟨(List.range len).map fun i => if h : i < len then (key i h).choose else V.zero, by simp, fun i hi' => ?_⟩
      have hil : i < len := by simpa using hi'
      rw [List.getElem_map, List.getElem_range, dif_pos hil]
      exact (key i hil).choose_spec
    obtain ⟨vs, hlen, hvs⟩ := hall
    refine ⟨vs, ⟨some a, cap, by rw [hlen], by omega, hm, fun j hj => ?_⟩, fun x hx => ?_⟩
    · obtain ⟨b, off, spot⟩ := a
      have h00 := (hvs 0 (by omega)).2 0 _ rfl
      have hsp : spot = none := by
        have h := World.cell?_spot h00
        cases spot with
        | none => rfl
        | some x =>
          exfalso
          simp [Addr.add] at h
      subst hsp
      exact ⟨b, off, rfl, fun i y hy => by
        have := (hvs j hj).2 i y hy
        rw [add_at, add_at] at this
        exact this⟩
    · obtain ⟨i, hi', rfl⟩ := List.mem_iff_getElem.1 hx
      exact (hvs i hi').1

end
end Go.Proofs.Ytfnmcdjfdhdlmaa

/-
  What an argument that came in as a row of rows of values of the document is to a walk.
-/
namespace Go.Proofs.Ytfnmcdjfdhdlmaa
open Go.ChangeShapes Go.WideShapes Go.ChangeAt Go.RowKit Go.Joins Go.Deep

section
variable {H : Type} {enc : TypeId × Value → H} {P : Program} {w : World} {base : Nat} {held : Bool}

theorem read_rows {t r e : TypeId} {f0 f1 f2 : Field} {v : Value} {d : DataW H} {ps : List MemPlace} (ht : P.underlying t = some (.slice r)) (hr : P.underlying r = some (.slice e)) (hs : P.underlying e = some (.struct #[f0, f1, f2])) (h0 : P.underlying f0.type = some (.int .u8)) (h1 : P.underlying f1.type = some (.int .i64)) (h2 : P.underlying f2.type = some .string)
    (hone : oneCellFields P #[f0, f1, f2] = true) (hC : P.cellsOf e = 3) (hR : P.cellsOf r = 1) (hv : v.cells.toList = [v]) (h : DataW.Trod enc P w base (fun _ => true) held t v d ps) :
    ∃ rs : List (List V), RdRows w v rs ∧ ∀ vs ∈ rs, ∀ x ∈ vs, x.fits ∧ x.s.length ≤ maxLen := by
  obtain ⟨fuel, hf⟩ := h
  rw [hv] at hf
  rcases open_slice1 ht hR hf with ⟨hcs, _⟩ | ⟨a, len, cap, m, n, W, D, Pl, hcs, _, hl, hm, hmm, _, hi⟩
  · obtain rfl : v = .slice none 0 0 := by simpa using hcs
    exact ⟨[], RdRows.nil w, by simp⟩
  · obtain rfl : v = .slice (some a) len cap := by simpa using hcs
    have hmc : m = cap := by simpa using hmm
    have key : ∀ i, i < len → ∃ vs : List V, (∀ x ∈ vs, x.fits ∧ x.s.length ≤ maxLen) ∧ RdVals w (W i) vs ∧ w.cell? (a.add i) = some (W i) := fun i hi' => by
      obtain ⟨hc, ht'⟩ := hi i (by omega)
      obtain ⟨a', l', c', e'⟩ := slice_form hr ht'
      have e'' : W i = .slice a' l' c' := by simpa using e'
      obtain ⟨vs, hvs, hfit⟩ := read_vals (v := W i) (d := D i) (ps := Pl i) hr hs h0 h1 h2 hone hC (by rw [e'']; rfl) ⟨n, by rw [e'']; rw [e''] at ht'; exact ht'⟩
      exact ⟨vs, hfit, hvs, hc⟩
    have hall : ∃ rs : List (List V), rs.length = len ∧ ∀ i, (hi : i < rs.length) → (∀ x ∈ rs[i], x.fits ∧ x.s.length ≤ maxLen) ∧ RdVals w (W i) rs[i] ∧ w.cell? (a.add i) = some (W i) := by
      refine ⟨(List.range len).map fun i => if h : i < len then (key i h).choose else [], by simp, fun i hi' => ?_⟩
      have hil : i < len := by simpa using hi'
      rw [List.getElem_map, List.getElem_range, dif_pos hil]
      exact (key i hil).choose_spec
    obtain ⟨rs, hlen, hrs⟩ := hall
    refine ⟨rs, ⟨some a, cap, by rw [hlen], by omega, hm, fun j hj => ⟨a, W j, rfl, (hrs j hj).2.1, (hrs j hj).2.2⟩⟩, fun x hx => ?_⟩
    obtain ⟨i, hi', rfl⟩ := List.mem_iff_getElem.1 hx
    exact (hrs i hi').1

end
end Go.Proofs.Ytfnmcdjfdhdlmaa
