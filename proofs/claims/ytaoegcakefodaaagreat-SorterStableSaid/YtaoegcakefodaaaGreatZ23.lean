/-
  Texts of this proof, merged.
-/
import Derived.Test.YtaoegcakefodaaaGreatZ1
import Derived.Test.YtaoegcakefodaaaGreatZ2
import Derived.Test.YtaoegcakefodaaaGreatZ3
import Derived.Test.YtaoegcakefodaaaGreatZ4
import Derived.Test.YtaoegcakefodaaaGreatZ5
import Derived.Test.YtaoegcakefodaaaGreatZ6
import Derived.Test.YtaoegcakefodaaaGreatZ7
import Derived.Test.YtaoegcakefodaaaGreatZ8
import Derived.Test.YtaoegcakefodaaaGreatZ9
import Derived.Test.YtaoegcakefodaaaGreatZ10
import Derived.Test.YtaoegcakefodaaaGreatZ11
import Derived.Test.YtaoegcakefodaaaGreatZ12
import Derived.Test.YtaoegcakefodaaaGreatZ13
import Derived.Test.YtaoegcakefodaaaGreatZ14
import Derived.Test.YtaoegcakefodaaaGreatZ15
import Derived.Test.YtaoegcakefodaaaGreatZ16
import Derived.Test.YtaoegcakefodaaaGreatZ17
import Derived.Test.YtaoegcakefodaaaGreatZ18
import Derived.Test.YtaoegcakefodaaaGreatZ19
import Derived.Test.YtaoegcakefodaaaGreatZ20
import Derived.Test.YtaoegcakefodaaaGreatZ21
import Derived.Test.YtaoegcakefodaaaGreatZ22
namespace Go.Proofs.YtaoegcakefodaaaGreat
open Go.RowKit Go.BigFrame
def TooMuch (left : Int) (n : Nat) (rows : List (List V)) : Prop := ∀ gr, 0 ≤ gr → (∀ x ∈ rows, rowCost x ≤ gr) → left < n * gr
theorem TooMuch.of {left : Int} {n m : Nat} {g : List Run} {rows : List (List V)} (h : ∀ gr, (∀ r ∈ g, ∀ x ∈ r.y, rowCost x ≤ gr) → left < m * gr) (hm : m ≤ n) (hs : ∀ r ∈ g, ∀ x ∈ r.y, x ∈ rows) : TooMuch left n rows := fun gr h0 hx => by
  have h1 := h gr fun r hr x hxr => hx x (hs r hr x hxr)
  have h2 : (m : Int) * gr ≤ (n : Int) * gr := Int.mul_le_mul_of_nonneg_right (by omega) h0
  omega
theorem NoRoom.le {s0 : St} {rows : List (List V)} {n m : Nat} (h : NoRoom s0 rows n) (hm : n ≤ m) : NoRoom s0 rows m := by
  unfold NoRoom at *
  omega
def Pass18 (B p q t : Nat) (ks : List Ky) (K : Value) (s0 : St) (most base : Int) (rs : List Run) (fan : Nat) (O : Nat → Prop) (w : World) (e : Ending) (w' : World) : Prop :=
  ∃ (E : Int) (O' : Nat → Prop) (s' : St) (held' : Int) (R' : Value) (rs' : List Run), e = .returned (.int .i64 E) ∧ Srt B p q t ks K s0 most base O' w' s' held' R' rs' ∧ OnlyS (fun x => O x ∨ x = q ∨ B ≤ x) w w' ∧ (∀ x, O' x → O x ∨ w.heap.size ≤ x) ∧ rs'.flatMap Run.y = rs.flatMap Run.y ∧ rs'.length ≤ rs.length ∧
    ((E = 0 ∧ held' = 0 ∧ rs'.length < rs.length) ∨ (E = 5 ∧ TooMuch (most - base) fan (rs.flatMap Run.y)) ∨ (E = 4 ∧ NoRoom s0 (rs.flatMap Run.y) rs.length))
theorem parts18 (rs : List Run) (i T : Nat) (hi : i ≤ T) (_hT : T ≤ rs.length) : rs = rs.take i ++ ((rs.drop i).take (T - i) ++ rs.drop T) := by
  have h1 : rs.drop T = (rs.drop i).drop (T - i) := by rw [List.drop_drop]; congr 1; omega
  rw [h1, List.take_append_drop, List.take_append_drop]
theorem OnlyS.chain {O O1 : Nat → Prop} {B q : Nat} {w w1 w2 : World} (h : OnlyS (fun x => O x ∨ x = q ∨ B ≤ x) w w1) (k : OnlyS (fun x => O1 x ∨ x = q ∨ B ≤ x) w1 w2) (hO : ∀ x, O1 x → O x ∨ w.heap.size ≤ x) : OnlyS (fun x => O x ∨ x = q ∨ B ≤ x) w w2 := OnlyS.trans h k fun x hx h2 => by
  rcases h2 with h2 | h2
  · rcases hO x h2 with h3 | h3
    · exact .inl h3
    · omega
  · exact .inr h2
set_option maxRecDepth 100000 in
set_option maxHeartbeats 4000000 in
theorem pPass18_any (B p q t : Nat) (ks : List Ky) (K : Value) (s0 : St) (most base : Int) (O : Nat → Prop) (w : World) (s : St) (R : Value) (rs : List Run) (fan : Nat) (h2 : 2 ≤ fan) (h16 : fan ≤ 16) (hlong : fan < rs.length) (h : Srt B p q t ks K s0 most base O w s 0 R rs)
    (hfit : FitB (rs.flatMap Run.y)) (hK : ∀ W, OnlyS (fun x => O x ∨ x = q ∨ B ≤ x) w W → RdKs W K ks) (hk : ks.length ≤ 1000000) (hal : rs.length ≤ 1000) :
    Calls Tryz.prog 67 #[.pointer (some ⟨t, 0, none⟩), .int .i64 fan] w (Pass18 B p q t ks K s0 most base rs fan O w) := by
  have HSR := Lib.hid h
  have HFIT := Lib.hid hfit
  have HK := Lib.hid hK
  have HLONG := Lib.hid hlong
  have HAL := Lib.hid hal
  clear h hfit hK hlong hal
  go_enter Tryz.func67, Tryz.ntmps67
  go_wp2_with fail
  go_loopw [5] (fun iv wr => ∃ (i : Nat) (Oi : Nat → Prop) (si : St) (Ri : Value) (ri : List Run), i ≤ ri.length ∧ iv = .int .i64 i ∧ Srt B p q t ks K s0 most base Oi wr si 0 Ri ri ∧ OnlyS (fun x => O x ∨ x = q ∨ B ≤ x) w wr ∧ (∀ x, Oi x → O x ∨ w.heap.size ≤ x) ∧ ri.flatMap Run.y = rs.flatMap Run.y ∧ ri.length ≤ rs.length ∧ (0 < i → ri.length < rs.length)) (fun iv wr => cellLen wr t 4 - (intOf iv).toNat)
  case atStart => exact ⟨0, O, s, R, rs, Nat.zero_le _, rfl, HSR.out, OnlyS.refl _ _, fun x hx => .inl hx, rfl, Nat.le_refl _, fun h => absurd h (Nat.lt_irrefl 0)⟩
  case round =>
    obtain ⟨i, Oi, si, Ri, ri, hi, rfl, hS, ho, hO, hy, hle, hlt0⟩ := hrel
    have HS := Lib.hid hS
    have HO := Lib.hid ho
    have HON := Lib.hid hO
    have HY := Lib.hid hy
    have HLE := Lib.hid hle
    have HLT := Lib.hid hlt0
    have hrow := hS.mem.row
    obtain ⟨N, hN⟩ : ∃ N, ri.length = N := ⟨_, rfl⟩
    have HN := Lib.hid hN
    rw [hN] at hrow hi
    obtain ⟨ra, rc, rfl, hrc1, hrc2⟩ := own_shapeP hrow
    unfold maxLen at hrc2
    have c4 := hS.mem.blk.cell 4 _ rfl
    have HCL := Lib.hid (cellLen_of c4)
    have hN1000 : N ≤ 1000 := by have := HAL.out; omega
    clear hS ho hO hy hle hlt0 hrow hN
    by_cases hlt : i < N
    · obtain ⟨T, hT⟩ : ∃ T, min (i + fan) N = T := ⟨_, rfl⟩
      have HT := Lib.hid hT
      have hpt := parts18 ri i T (by omega) (by have := HN.out; omega)
      obtain ⟨g, hgd⟩ : ∃ g, (ri.drop i).take (T - i) = g := ⟨_, rfl⟩
      have hgl : g.length = T - i := by rw [← hgd, List.length_take, List.length_drop]; have := HN.out; omega
      have hgn : g ≠ [] := fun e => by rw [e] at hgl; simp at hgl; omega
      rw [hgd] at hpt
      have hS2 := HS.out
      rw [hpt] at hS2
      have hfit2 : FitB ((ri.take i ++ (g ++ ri.drop T)).flatMap Run.y) := by rw [← hpt, HY.out]; exact HFIT.out
      have hti : (ri.take i).length = i := by rw [List.length_take]; have := HN.out; omega
      have HJ := Lib.hid (pJoin18_any B p q t ks K s0 most base Oi wr si _ (ri.take i) g (ri.drop T) hgn (by omega) hS2 hfit2 (fun W hW => HK.out W (HO.out.chain hW HON.out)) hk (by rw [← hpt]; have := HN.out; omega) i T hti.symm (by omega))
      have HPT := Lib.hid hpt
      have HGL := Lib.hid hgl
      clear hpt hgd hgn hS2 hfit2 hgl hT hti
      go_wp2_with fail
      have hmin : min ((i : Int) + (fan : Int)) (N : Int) = (T : Int) := by have := HT.out; omega
      rw [hmin]
      clear hmin
      refine HJ.out.mono ?_
      rintro e w1 ⟨E, O1, s1, held1, R1, r1, rfl, hS1, ho1, hO1, hE⟩
      have HS1 := Lib.hid hS1
      have HO1 := Lib.hid (HO.out.chain ho1 HON.out)
      have HON1 := Lib.hid (show ∀ x, O1 x → O x ∨ w.heap.size ≤ x from fun x hx => by
        have := HO.out.size
        rcases hO1 x hx with h3 | h3
        · exact HON.out x h3
        · exact .inr (by omega))
      clear hS1 ho1 hO1 HJ c4
      have hge : ∀ r ∈ g, r ∈ ri := fun r hr => by rw [HPT.out]; exact List.mem_append.2 (.inr (List.mem_append.2 (.inl hr)))
      rcases hE with ⟨rfl, rfl, r', rfl, hry⟩ | ⟨rfl, rfl, hmem⟩ | ⟨rfl, rfl, hno⟩
      · have HRY := Lib.hid hry
        clear hry hge
        go_wp2_with fail
        obtain ⟨r1a, r1c, hR1, -, -⟩ := own_shapeP HS1.out.mem.row
        have hc4 := HS1.out.mem.blk.cell 4 _ rfl
        rw [hR1] at hc4
        have HC1 := Lib.hid (cellLen_of hc4)
        have hl1 : (ri.take i ++ (r' :: ri.drop T)).length = i + 1 + (N - T) := by
          rw [List.length_append, List.length_cons, List.length_take, List.length_drop]
          have := HN.out
          omega
        have HL1 := Lib.hid hl1
        clear hR1 hc4 hl1
        go_roundw
        case rel =>
          have h1 := HL1.out
          have h2 := HT.out
          have h3 := HN.out
          have h4 := HLE.out
          have h5 := HLT.out
          have h6 := HLONG.out
          refine ⟨i + 1, O1, s1, R1, _, by omega, by go_num, HS1.out, HO1.out, HON1.out, ?_, by omega, fun _ => ?_⟩
          · rw [← HY.out]
            conv => rhs; rw [HPT.out]
            rw [List.flatMap_append, List.flatMap_append, List.flatMap_append, List.flatMap_cons, HRY.out]
          · rcases Nat.eq_zero_or_pos i with h7 | h7
            · omega
            · have := h5 h7; omega
        case measure =>
          have h1 := HL1.out
          have h2 := HT.out
          have h3 := HC1.out
          have h4 := HCL.out
          rw [h3, h4, h1]
          simp [intOf]
          omega
      · have HMEM := Lib.hid (TooMuch.of (n := fan) (rows := rs.flatMap Run.y) hmem (by have := HGL.out; have := HT.out; omega) fun r hr x hx => by
          rw [← HY.out]
          exact List.mem_flatMap.2 ⟨r, hge r hr, hx⟩)
        clear hmem hge
        go_wp2_with fail
        go_ret
        have hy := HY.out
        have hp := HPT.out
        have hl := HLE.out
        exact ⟨5, O1, s1, held1, R1, _, rfl, HS1.out, HO1.out, HON1.out, by rw [← hp]; exact hy, by rw [← hp]; exact hl, .inr (.inl ⟨rfl, HMEM.out⟩)⟩
      · have HNO := Lib.hid hno
        clear hno hge
        go_wp2_with fail
        go_ret
        have hy := HY.out
        have hp := HPT.out
        have hl := HLE.out
        have hno := HNO.out
        rw [← hp, hy] at hno
        exact ⟨4, O1, s1, held1, R1, _, rfl, HS1.out, HO1.out, HON1.out, by rw [← hp]; exact hy, by rw [← hp]; exact hl, .inr (.inr ⟨rfl, hno.le hl⟩)⟩
    · obtain rfl : i = N := by omega
      go_wp2_with fail
      go_ret
      have hn := HN.out
      have hl := HLONG.out
      exact ⟨0, Oi, si, 0, _, ri, rfl, HS.out, HO.out, HON.out, HY.out, HLE.out, .inl ⟨rfl, rfl, by
        rcases Nat.eq_zero_or_pos i with h7 | h7
        · omega
        · exact HLT.out h7⟩⟩
end Go.Proofs.YtaoegcakefodaaaGreat

namespace Go.Proofs.YtaoegcakefodaaaGreat
open Go.RowKit Go.BigFrame
def AllMg18 (B p q t : Nat) (ks : List Ky) (K : Value) (s0 : St) (most base : Int) (rs : List Run) (fan : Nat) (O : Nat → Prop) (w : World) (e : Ending) (w' : World) : Prop :=
  ∃ (out : Value) (E : Int) (O' : Nat → Prop) (s' : St) (held' : Int) (R' : Value) (rs' : List Run), e = .returned (.tuple #[out, .int .i64 E]) ∧ Srt B p q t ks K s0 most base O' w' s' held' R' rs' ∧ OnlyS (fun x => O x ∨ x = q ∨ B ≤ x) w w' ∧ (∀ x, O' x → O x ∨ w.heap.size ≤ x) ∧
    ((E = 0 ∧ ∃ X : Nat → Prop, (∀ x, X x → B ≤ x ∧ x < w'.heap.size ∧ ¬ O' x ∧ ¬ WkO t R' rs' x) ∧ ∀ W Y, OnlyS Y w' W → (∀ x, Y x → ¬ X x) → RdRV W out (sortS ks (rs.flatMap Run.y))) ∨
     (E = 5 ∧ out = .slice none 0 0 ∧ TooMuch (most - base) fan (rs.flatMap Run.y)) ∨ (E = 4 ∧ out = .slice none 0 0 ∧ NoRoom s0 (rs.flatMap Run.y) rs.length))
theorem ClZ.rd {lb : Nat} {xs : List (List V)} {X : Nat → Prop} {w : World} (h : ClZ lb xs xs.length X w) : ∃ L, Blk w lb [L] 22 ∧ RdRV w L xs := by
  obtain ⟨L, hs, -, h1, h2, h3⟩ := h
  rw [List.take_length] at h3
  have hl : hs.length = xs.length := by simpa using h2.1
  refine ⟨L, h1, hs, ?_, h3.rd⟩
  rw [← hl] at h2
  exact RdV.of_owns h2
theorem ClZ.later {lb : Nat} {xs : List (List V)} {X : Nat → Prop} {w : World} (h : ClZ lb xs xs.length X w) {L : Value} (hL : w.cell? ⟨lb, 0, none⟩ = some L) : ∀ W Y, OnlyS Y w W → (∀ x, Y x → ¬ X x) → RdRV W L xs := fun W Y ho hy => by
  obtain ⟨L', hs, hX, h1, h2, h3⟩ := h
  have e : L' = L := by have := h1.cell 0 _ rfl; rw [hL] at this; exact (Option.some.inj this).symm
  subst e
  have h4 := ClZ.keep ⟨L', hs, hX, h1, h2, h3⟩ ho hy
  obtain ⟨L2, h5, h6⟩ := h4.rd
  obtain ⟨L3, hs3, hX3, g1, g2, g3⟩ := h4
  have e2 : L2 = L' := by
    have a1 := h5.cell 0 _ rfl
    have a2 := (h1.others ho fun h7 => hy lb h7 (by rw [hX]; exact .inl rfl)).cell 0 _ rfl
    rw [a1] at a2
    exact Option.some.inj a2
  rw [← e2]
  exact h6
set_option maxRecDepth 100000 in
set_option maxHeartbeats 4000000 in
theorem pMerged18_any (B p q t : Nat) (ks : List Ky) (K : Value) (s0 : St) (most base : Int) (O : Nat → Prop) (w : World) (s : St) (R : Value) (rs : List Run) (fan : Nat) (h2 : 2 ≤ fan) (h16 : fan ≤ 16) (h : Srt B p q t ks K s0 most base O w s 0 R rs)
    (hfit : FitB (rs.flatMap Run.y)) (hK : ∀ W, OnlyS (fun x => O x ∨ x = q ∨ B ≤ x) w W → RdKs W K ks) (hk : ks.length ≤ 1000000) (hal : rs.length ≤ 1000) :
    Calls Tryz.prog 42 #[.pointer (some ⟨t, 0, none⟩), .int .i64 fan] w (AllMg18 B p q t ks K s0 most base rs fan O w) := by
  have hmf : ∀ (fn : Fn) (first cap : Array Value) (w : World), (Instr.makeFunc fn first cap).run Tryz.prog w = .ok (.func fn first cap) w := fun _ _ _ _ => rfl
  have HSR := Lib.hid h
  have HFIT := Lib.hid hfit
  have HK := Lib.hid hK
  have HAL := Lib.hid hal
  clear h hfit hK hal
  go_enter Tryz.func42, Tryz.ntmps42
  go_wp2_with fail
  go_loopw [6] (fun _ wr => ∃ (Oi : Nat → Prop) (si : St) (Ri : Value) (ri : List Run), Srt B p q t ks K s0 most base Oi wr si 0 Ri ri ∧ OnlyS (fun x => O x ∨ x = q ∨ B ≤ x) w wr ∧ (∀ x, Oi x → O x ∨ w.heap.size ≤ x) ∧ ri.flatMap Run.y = rs.flatMap Run.y ∧ ri.length ≤ rs.length) (fun _ wr => cellLen wr t 4)
  case atStart => exact ⟨O, s, R, rs, HSR.out, OnlyS.refl _ _, fun x hx => .inl hx, rfl, Nat.le_refl _⟩
  case round =>
    obtain ⟨Oi, si, Ri, ri, hS, ho, hO, hy, hle⟩ := hrel
    have HS := Lib.hid hS
    have HO := Lib.hid ho
    have HON := Lib.hid hO
    have HY := Lib.hid hy
    have HLE := Lib.hid hle
    have hrow := hS.mem.row
    obtain ⟨N, hN⟩ : ∃ N, ri.length = N := ⟨_, rfl⟩
    have HN := Lib.hid hN
    rw [hN] at hrow
    obtain ⟨ra, rc, rfl, hrc1, hrc2⟩ := own_shapeP hrow
    unfold maxLen at hrc2
    have c4 := hS.mem.blk.cell 4 _ rfl
    have HCL := Lib.hid (cellLen_of c4)
    have hN1000 : N ≤ 1000 := by have := HAL.out; omega
    clear hS ho hO hy hle hrow hN
    by_cases hlong : fan < N
    · have d1 : decide ((N : Int) > (fan : Int)) = true := decide_eq_true (by omega)
      have d2 : decide (fan < N) = true := decide_eq_true hlong
      have HP := Lib.hid (pPass18_any B p q t ks K s0 most base Oi wr si _ ri fan h2 h16 (by rw [HN.out]; exact hlong) HS.out (by rw [HY.out]; exact HFIT.out) (fun W hW => HK.out W (HO.out.chain hW HON.out)) hk (by rw [HN.out]; exact hN1000))
      go_wp2_with fail
      refine HP.out.mono ?_
      rintro e w1 ⟨E, O1, s1, held1, R1, r1, rfl, hS1, ho1, hO1, hy1, hl1, hE⟩
      have HS1 := Lib.hid hS1
      have HO1 := Lib.hid (HO.out.chain ho1 HON.out)
      have HON1 := Lib.hid (show ∀ x, O1 x → O x ∨ w.heap.size ≤ x from fun x hx => by
        have := HO.out.size
        rcases hO1 x hx with h3 | h3
        · exact HON.out x h3
        · exact .inr (by omega))
      have HY1 := Lib.hid (hy1.trans HY.out)
      have HL1 := Lib.hid hl1
      clear hS1 ho1 hO1 hy1 hl1 HP c4
      rcases hE with ⟨rfl, rfl, hl⟩ | ⟨rfl, hmem⟩ | ⟨rfl, hno⟩
      · have HLL := Lib.hid hl
        clear hl
        obtain ⟨r1a, r1c, hR1, -, -⟩ := own_shapeP HS1.out.mem.row
        have hc4 := HS1.out.mem.blk.cell 4 _ rfl
        rw [hR1] at hc4
        have HC1 := Lib.hid (cellLen_of hc4)
        clear hR1 hc4
        go_wp2_with fail
        go_roundw
        case rel => exact ⟨O1, s1, R1, r1, HS1.out, HO1.out, HON1.out, HY1.out, by have := HL1.out; have := HLE.out; omega⟩
        case measure =>
          have h3 := HC1.out
          have h4 := HCL.out
          have h5 := HLL.out
          have h6 := HN.out
          rw [h3, h4]
          omega
      · have HM := Lib.hid hmem
        clear hmem
        go_wp2_with fail
        go_ret2
        have hm := HM.out
        rw [HY.out] at hm
        exact ⟨_, 5, O1, s1, held1, R1, r1, rfl, HS1.out, HO1.out, HON1.out, .inr (.inl ⟨rfl, rfl, hm⟩)⟩
      · have HM := Lib.hid hno
        clear hno
        go_wp2_with fail
        go_ret2
        have hm := HM.out
        rw [HY.out] at hm
        exact ⟨_, 4, O1, s1, held1, R1, r1, rfl, HS1.out, HO1.out, HON1.out, .inr (.inr ⟨rfl, rfl, hm.le HLE.out⟩)⟩
    · have d1 : decide ((N : Int) > (fan : Int)) = false := decide_eq_false (by omega)
      have d2 : decide (fan < N) = false := decide_eq_false hlong
      obtain ⟨xs, hxs⟩ : ∃ xs, xs = sortS ks (rs.flatMap Run.y) := ⟨_, rfl⟩
      have hsr := HS.out
      have hx1 := ext_new wr (.cells #[.slice none 0 0] 22)
      have hsz : wr.heap.size < (wr.alloc (.cells #[.slice none 0 0] 22)).heap.size := by simp only [World.alloc, Array.size_push]; omega
      have hfity : FitB (ri.flatMap Run.y) := by rw [HY.out]; exact HFIT.out
      have hfitr : ∀ r ∈ ri, FitB r.y := fun r hr => hfity.sub (by
        obtain ⟨i, hi, rfl⟩ := List.mem_iff_getElem.1 hr
        exact List.Sublist.length_le (List.sublist_flatten_of_mem (List.mem_map.2 ⟨ri[i], List.getElem_mem hi, rfl⟩))) fun x hx => List.mem_flatMap.2 ⟨r, hr, hx⟩
      have hfx : FitB xs := by rw [hxs]; exact HFIT.out.sorted ks
      have hxm : xs = LosPure.mergeL (cmpR ks) (ri.map fun r => sortS ks r.y) := by
        have e : (ri.map fun r => sortS ks r.y) = (ri.map Run.y).map (sortS ks) := by rw [List.map_map]; rfl
        rw [e, mergeL_sortS, hxs, ← HY.out]
        rfl
      have hsink := sink_list p ks ri xs si wr.heap.size hsr.ok hsr.dsk.hold (by have := hfx.1; omega) fun x hx => by have := (hfx.2 x hx).1; omega
      have hcl0 : ClZ wr.heap.size xs 0 (ClX wr.heap.size (.slice none 0 0) []) (wr.alloc (.cells #[.slice none 0 0] 22)) := ⟨_, _, rfl, Blk.new wr [.slice none 0 0] _, owns_nil _ _ _ _, OwnRows.nil _ _⟩
      have hX0 : ∀ x, ClX wr.heap.size (.slice none 0 0) [] x → x = wr.heap.size := fun x hx => by
        rcases hx with hx | hx | ⟨v, hv, -⟩
        · exact hx
        · cases hx
        · simp at hv
      have hqw : q < wr.heap.size := by have := hsr.qB; have := hsr.wB; omega
      have htw := hsr.mem.blk.lt
      have hrbx : ∀ x, (Oi x ∨ x = q ∨ x = t) → (Value.slice ra N rc).ownBlock ≠ some x := fun x hx e => by
        rcases hx with hx | hx | hx
        · exact hsr.ow x hx (.inr (.inl e))
        · have := (hsr.mem.row.lt x e).1; have := hsr.qB; omega
        · exact hsr.mem.rt (by rw [e, hx])
      have HM := Lib.hid (pMerge18_any p q t ks K _ (.slice ra N rc) ri xs most base _ _ _ _ _ _ _ _ Oi _ _ hsink (hsr.sto.mono hx1) hcl0 (fun x hx => by rw [hX0 x hx]; exact hsz) (fun x hO hx => by have := hsr.sto.lt x hO; have := hX0 x hx; omega)
        (by obtain ⟨pk, hp⟩ := hsr.pur; exact ⟨pk, by rw [Int.add_zero] at hp; exact hp.ext hx1⟩) (hsr.mem.blk.ext hx1) (hsr.mem.fls.keep (OnlyS.of_ext (X := fun _ => False) hx1) fun _ _ _ h => h.elim)
        (by have := hsr.qB; have := hsr.mem.tB; omega) ⟨hsr.oq, fun h2 => hsr.ow t h2 (.inl rfl)⟩ ⟨fun h2 => by have := hX0 q h2; omega, fun h2 => by have := hX0 t h2; omega⟩
        (fun r hr x hx => by
          have h1 := hsr.mem.ft r hr x hx
          have h2 := (hsr.mem.fls.fil r hr).lt hx
          exact ⟨fun h3 => hsr.ow x h3 (.inr (.inr ⟨r, hr, hx⟩)), fun h3 => by have := hX0 x h3; omega, by have := hsr.qB; omega, h1.2.1⟩)
        (fun W hW => RdV.of_owns (own_others (by
          have := hsr.mem.row
          have e : (ri.map ptrR).length = ri.length := List.length_map ..
          rw [← e] at this
          have e2 : N = (ri.map ptrR).length := by rw [e]; exact HN.out.symm
          rw [e2] at this ⊢
          exact owns_extS this hx1) hW fun x hx h2 => by
            rcases h2 with h2 | h2 | h2 | h2
            · exact hrbx x (.inl h2) hx
            · have := hX0 x h2; have := (hsr.mem.row.lt x hx).2; omega
            · exact hrbx x (.inr (.inl h2)) hx
            · exact hrbx x (.inr (.inr h2)) hx))
        (fun W hW => HK.out W (HO.out.chain (OnlyS.trans (OnlyS.of_ext hx1) hW fun x hx h2 => by
          rcases h2 with h2 | h2 | h2 | h2
          · exact .inl h2
          · have := hX0 x h2; omega
          · exact .inr (.inl h2)
          · exact .inr (.inr (by rw [h2]; exact hsr.mem.tB))) HON.out))
        hk (by rw [HN.out]; omega) (fun r hr => (hfitr r hr).sorted ks) hsr.may (fun r hr => (hfitr r hr).cost) hxm)
      have HXS := Lib.hid hxs
      have HX1 := Lib.hid hx1
      have HX0 := Lib.hid hX0
      have c41 := (hsr.mem.blk.ext hx1).cell 4 _ rfl
      have c4d := hsr.mem.blk.cell 4 _ rfl
      clear hxs hx1 hX0 hfity hfitr hfx hxm hsink hcl0 hrbx hsr hsz
      go_wp2_with fail
      refine HM.out.mono ?_
      rintro e w1 ⟨E, O1, X1, s1, held1, rfl, hp1, hb1, hpu1, hh1, ho1, hO1, hX1, hOX1, hE⟩
      have hsx := HX1.out.size
      have hO1' : ∀ x, O1 x → Oi x ∨ wr.heap.size ≤ x := fun x hx => (hO1 x hx).imp id fun h => by omega
      have hon : OnlyS (fun x => Oi x ∨ x = q ∨ x = t) wr w1 := OnlyS.trans (OnlyS.of_ext HX1.out) ho1 fun x hx h2 => by
        rcases h2 with h2 | h2 | h2
        · exact .inl h2
        · have := HX0.out x h2; omega
        · exact .inr h2
      have hs1 : s1 = si := by
        rcases hE with ⟨-, -, h, -⟩ | ⟨-, -, k, -, h, -⟩ | ⟨-, h, -⟩
        · exact h
        · exact h
        · exact h.elim
      subst hs1
      have HS1 := Lib.hid (HS.out.same (held' := held1) hp1 hO1' hpu1 hon (fun x hx => by
        rcases hx with hx | rfl | hx
        · exact .inr (HS.out.ow x hx)
        · exact .inr fun h2 => by
            have := (HS.out.mem.lt h2).1
            have := HS.out.qB
            omega
        · exact .inl hx) hb1 hh1)
      have HO1 := Lib.hid (HO.out.chain (hon.mono fun x _ hx => by
        rcases hx with hx | hx | hx
        · exact .inl hx
        · exact .inr (.inl hx)
        · exact .inr (.inr (by rw [hx]; exact HS.out.mem.tB))) HON.out)
      have HON1 := Lib.hid (show ∀ x, O1 x → O x ∨ w.heap.size ≤ x from fun x hx => by
        have := HO.out.size
        rcases hO1' x hx with h3 | h3
        · exact HON.out x h3
        · exact .inr (by omega))
      have HXN := Lib.hid (show ∀ x, X1 x → wr.heap.size ≤ x ∧ x < w1.heap.size from fun x hx => ⟨(hX1 x hx).1.elim (fun h => by have := HX0.out x h; omega) fun h => by omega, (hX1 x hx).2⟩)
      have HOX1 := Lib.hid hOX1
      clear hp1 hb1 hpu1 ho1 hO1 hX1 hOX1 hon hO1'
      rcases hE with ⟨rfl, rfl, -, hz⟩ | ⟨rfl, hmem, -⟩ | ⟨-, hf, -⟩
      · obtain ⟨L, hL, hrd⟩ := hz.rd
        obtain ⟨la, lc, rfl, -, -⟩ := hrd.shape
        have cL := hL.cell 0 _ rfl
        have HLT := Lib.hid (hz.later cL)
        clear hz hL hrd
        go_wp2_with fail
        go_ret2
        have hxe := HXS.out
        refine ⟨_, 0, O1, s1, 0, _, ri, rfl, HS1.out, HO1.out, HON1.out, .inl ⟨rfl, X1, fun x hx => ⟨?_, (HXN.out x hx).2, fun h => HOX1.out x h hx, fun h => ?_⟩, fun W Y ho hy => ?_⟩⟩
        · have := (HXN.out x hx).1
          have := HS.out.wB
          omega
        · have h1 := (HXN.out x hx).1
          have h2 := (HS.out.mem.lt h).2
          omega
        · rw [← hxe]
          exact HLT.out W Y ho hy
      · have HMEM := Lib.hid (TooMuch.of (n := fan) (rows := rs.flatMap Run.y) hmem (by have := HN.out; omega) fun r hr x hx => by
          rw [← HY.out]
          exact List.mem_flatMap.2 ⟨r, hr, hx⟩)
        clear hmem
        go_wp2_with fail
        go_ret2
        exact ⟨_, 5, O1, s1, held1, _, ri, rfl, HS1.out, HO1.out, HON1.out, .inr (.inl ⟨rfl, rfl, HMEM.out⟩)⟩
      · exact hf.elim
end Go.Proofs.YtaoegcakefodaaaGreat

namespace Go.Proofs.YtaoegcakefodaaaGreat
open Go.RowKit Go.BigFrame
def Laid18 (B p q t : Nat) (ks : List Ky) (K : Value) (s0 : St) (most base : Int) (s : St) (held : Int) (rs : List Run) (y : List (List V)) (O : Nat → Prop) (w : World) (e : Ending) (w' : World) : Prop :=
  ∃ (E : Int) (O' : Nat → Prop) (s' : St) (held' : Int) (R' : Value) (rs' : List Run), e = .returned (.int .i64 E) ∧ Srt B p q t ks K s0 most base O' w' s' held' R' rs' ∧ OnlyS (fun x => O x ∨ x = q ∨ B ≤ x) w w' ∧ (∀ x, O' x → O x ∨ w.heap.size ≤ x) ∧
    ((E = 0 ∧ held' = 0 ∧ ∃ r', rs' = rs ++ [r'] ∧ r'.y = y) ∨ (E = 4 ∧ held' = held ∧ rs' = rs ∧ (s.length : Int) - usedS s < needS ((rowsB (sortS ks y)).length : Int)))
section
variable {B p q t : Nat} {ks : List Ky} {K : Value} {s0 : St} {most base : Int} {O : Nat → Prop} {w : World} {s : St} {held : Int} {R : Value} {rs : List Run}
theorem Srt.more (h : Srt B p q t ks K s0 most base O w s held R rs) {w' : World} {O' : Nat → Prop} {s' : St} {R' : Value} {r' : Run} (hp : PSto O' w' p s') (hok : okS s') (hO : ∀ x, O' x → O x ∨ w.heap.size ≤ x) (hpu : ∃ pk, PurS w' q ⟨most, base + 0, pk⟩)
    (ho : OnlyS (fun x => O x ∨ x = q ∨ x = t ∨ R.ownBlock = some x) w w') (hb : Wk5 w' t p q K 0 R') (hrow : w'.ownsRow B 104 1 R' (rs ++ [r']).length ((rs ++ [r']).map ptrR)) (hR : ∀ x, R'.ownBlock = some x → (R.ownBlock = some x ∨ w.heap.size ≤ x) ∧ ¬ O' x ∧ ¬ r'.F x) (hfil : Fil r'.F w' r'.f p r'.ids r'.y.length)
    (hF : ∀ x, r'.F x → w.heap.size ≤ x ∧ ¬ O' x) (hdsk : OnD ks s0 s' (rs ++ [r'])) (hmay : ∀ x ∈ r'.y, mayR x = 0) : Srt B p q t ks K s0 most base O' w' s' 0 R' (rs ++ [r']) := by
  have htlt := h.mem.blk.lt
  have hold : ∀ r ∈ rs, ∀ x, (O x ∨ x = q ∨ x = t ∨ R.ownBlock = some x) → ¬ r.F x := fun r hr x hx hF => by
    have h1 := h.mem.ft r hr x hF
    rcases hx with hx | rfl | rfl | hx
    · exact h.ow x hx (.inr (.inr ⟨r, hr, hF⟩))
    · have := h.qB; omega
    · exact h1.2.1 rfl
    · exact h1.2.2 hx
  have hlt : ∀ r ∈ rs, ∀ x, r.F x → x < w.heap.size := fun r hr x hx => (h.mem.fls.fil r hr).lt hx
  have hcases : ∀ r, r ∈ rs ++ [r'] → r = r' ∨ r ∈ rs := fun r hr => by
    rcases List.mem_append.1 hr with hr | hr
    · exact .inr hr
    · exact .inl (List.mem_singleton.1 hr)
  have hmem : WkM B w' p q t K 0 R' (rs ++ [r']) := by
    refine ⟨hb, hrow, ⟨fun r hr => ?_, ?_⟩, h.mem.tB, fun e => ?_, fun r hr x hx => ?_⟩
    · rcases hcases r hr with rfl | hr
      · exact hfil
      · exact (h.mem.fls.fil r hr).keep ho (hold r hr)
    · refine List.pairwise_append.2 ⟨h.mem.fls.ff, List.pairwise_singleton _ _, fun r hr r2 hr2 x h1 h2 => ?_⟩
      rw [List.mem_singleton] at hr2
      subst hr2
      have := hlt r hr x h1
      have := (hF x h2).1
      omega
    · rcases (hR t e).1 with h1 | h1
      · exact h.mem.rt h1
      · omega
    · rcases hcases r hr with rfl | hr
      · have h1 := (hF x hx).1
        have := h.wB
        exact ⟨by omega, by omega, fun e => (hR x e).2.2 hx⟩
      · have h1 := h.mem.ft r hr x hx
        refine ⟨h1.1, h1.2.1, fun e => ?_⟩
        rcases (hR x e).1 with h2 | h2
        · exact h1.2.2 h2
        · have := hlt r hr x hx; omega
  refine ⟨hp, hok, hpu, hmem, h.qB, fun h2 => ?_, fun x hx h2 => ?_, hdsk, fun r hr => ?_, Int.le_refl _, Nat.le_trans h.wB ho.size⟩
  · rcases hO q h2 with h3 | h3
    · exact h.oq h3
    · have := h.qB
      have := h.wB
      omega
  · rcases h2 with rfl | h2 | ⟨r, hr, h2⟩
    · rcases hO x hx with h3 | h3
      · exact h.ow x h3 (.inl rfl)
      · omega
    · exact (hR x h2).2.1 hx
    · rcases hcases r hr with rfl | hr
      · exact (hF x h2).2 hx
      · rcases hO x hx with h3 | h3
        · exact h.ow x h3 (.inr (.inr ⟨r, hr, h2⟩))
        · have := hlt r hr x h2
          omega
  · rcases hcases r hr with rfl | hr
    · exact hmay
    · exact h.may r hr
end
set_option maxRecDepth 100000 in
set_option maxHeartbeats 4000000 in
theorem pLay18_any (B p q t : Nat) (ks : List Ky) (K : Value) (s0 : St) (most base : Int) (O : Nat → Prop) (w : World) (s : St) (held : Int) (R u : Value) (rs : List Run) (y : List (List V)) (h : Srt B p q t ks K s0 most base O w s held R rs)
    (hu : RdRV w u y) (hK : RdKs w K ks) (hfit : FitB y) (hm : ∀ x ∈ y, mayR x = 0) (hal : rs.length ≤ 1000) (hbh : 0 ≤ base) :
    Calls Tryz.prog 41 #[.pointer (some ⟨t, 0, none⟩), u] w (Laid18 B p q t ks K s0 most base s held rs y O w) := by
  obtain ⟨ua, uc, rfl, -, -⟩ := hu.shape
  have HSR := Lib.hid h
  have HFIT := Lib.hid hfit
  have HM := Lib.hid hm
  have hfl : FitL y := ⟨fun r hr => (hfit.2 r hr).2, fun r hr => by have := (hfit.2 r hr).1; omega⟩
  have hx0 : Ext w w.drew := Ext.drew w
  have HSORT := Lib.hid (pSort15_any (.slice ua y.length uc) K y ks w.drew (hu.mono hx0) (hK.mono hx0) hfl (by have := hfit.1; omega))
  have HXD := Lib.hid hx0
  obtain ⟨ka, kc, hKs, -, -⟩ := hK.shape
  have HBZ := Lib.hid (fun z : Later (OnlyS O) w.drew => (h.mem.blk.ext hx0).onlyS z.ext (fun h2 => h.ow t h2 (.inl rfl)))
  subst hKs
  have a0 : ∀ z : Later (OnlyS O) w.drew, z.val.cell? ⟨t, 0, none⟩ = some (.pointer (some ⟨p, 0, none⟩)) := fun z => (HBZ.out z).cell 0 _ rfl
  have a2 : ∀ z : Later (OnlyS O) w.drew, z.val.cell? ⟨t, 2, none⟩ = some (.slice ka ks.length kc) := fun z => (HBZ.out z).cell 2 _ rfl
  have HAL := Lib.hid hal
  clear h hfit hm hu hK hfl hx0 hal
  go_enter Tryz.func41, Tryz.ntmps41
  go_wp2_with fail
  refine wp_region_segs (OnlyS O) (OnlyS.keeps O) [([0, 1, 2, 3, 4, 5, 6, 7, 8], some 9), ([], some 10), ([11, 12, 13, 14, 15], none)] (by kernel_rfl) (by kernel_rfl) (fun c a a' w e h => (by exact ⟨e ▸ h.1, h.2⟩)) ?_
  simp only [pickSegs, pickOps, List.map_cons, List.map_nil, Option.map_some, Option.map_none, Option.getD_some, List.getElem?_toArray, List.getElem?_cons_zero, List.getElem?_cons_succ]
  refine wpSegs_some fun K0 hK0 => ?_
  repeat go_big_quiet_step (fail)
  refine wpQuiet_nil ?_
  clear a0 a2
  go_wp2_with fail
  refine HSORT.out.mono ?_
  rintro e w1 ⟨⟨o, rfl, hcp⟩, hx1⟩
  obtain ⟨oa, oc, rfl, -, -⟩ := hcp.rv.shape
  have hX1 : Ext w w1 := Ext.trans HXD.out hx1
  have hsr := HSR.out
  have hcpu : ∀ W, OnlyS O w1 W → RdRows W (.slice oa (sortS ks y).length oc) (sortS ks y) := fun W hW => ((hcp.off (X := O) fun k hk => hsr.sto.lt k hk).onlyS hW fun _ h => h).rv.rd
  have HPUT := Lib.hid (pPut17_any O p s _ (sortS ks y) w1 (hsr.sto.mono hX1) hsr.ok hcpu (HFIT.out.sorted ks))
  have HX1 := Lib.hid hX1
  have HX1b := Lib.hid hx1
  clear hcp hx1 hX1 hcpu hsr
  go_wp2_with fail
  refine ⟨OnlyS.of_ext HX1b.out, hK0 _ _ ?_⟩
  clear hK0 K0
  refine wpSegs_some fun K0 hK0 => ?_
  refine wpQuiet_nil ?_
  go_wp2_with fail
  have hms : ∀ x ∈ sortS ks y, mayR x = 0 := fun x hx => HM.out x ((sortS_perm ks y).mem_iff.1 hx)
  have hpa := putR_all (s := s) hms
  refine HPUT.out.mono ?_
  rintro e w2 ⟨v, O2, rfl, hp2, ho2, hO2, hv⟩
  have hsz1 := HX1.out.size
  have HO2 := Lib.hid (show ∀ x, O2 x → O x ∨ w.heap.size ≤ x from fun x hx => (hO2 x hx).imp id fun h => by omega)
  have HON2 := Lib.hid (show OnlyS O w w2 from OnlyS.trans (OnlyS.of_ext HX1.out) ho2 fun _ _ h => h)
  have HOB := Lib.hid ho2
  have HP2 := Lib.hid hp2
  clear hO2 ho2 hp2 HPUT
  by_cases hroom : (s.length : Int) - usedS s < needS ((rowsB (sortS ks y)).length : Int)
  · rw [if_pos hroom] at hpa
    rw [hpa] at HP2 hv
    have hv0 : v = .pointer none := by
      rcases hv with ⟨-, h⟩ | ⟨h, -⟩
      · exact h
      · cases h
    subst hv0
    have h4 : (putR s (sortS ks y)).1.2 = 4 := by rw [hpa]
    rw [h4]
    have HR := Lib.hid hroom
    clear hv hpa h4 hms hroom
    go_wp2_with fail
    refine ⟨HOB.out, hK0 _ _ ?_⟩
    clear hK0 K0
    refine wpSegs_none ?_
    repeat go_big_quiet_step (fail)
    refine wpQuiet_nil (wpSegs_nil ?_)
    go_wp2_with fail
    go_ret
    have hsr := HSR.out
    obtain ⟨pk, hpk⟩ := hsr.pur
    exact ⟨4, O2, s, held, R, rs, rfl, hsr.same HP2.out HO2.out ⟨pk, hpk.onlyS HON2.out hsr.oq⟩ HON2.out (fun x hx => .inr (hsr.ow x hx)) (hsr.mem.blk.onlyS HON2.out fun h2 => hsr.ow t h2 (.inl rfl)) hsr.h0, HON2.out.mono fun x _ hx => .inl hx, HO2.out, .inr ⟨rfl, rfl, rfl, HR.out⟩⟩
  · rw [if_neg hroom] at hpa
    have h0 : (putR s (sortS ks y)).1.2 = 0 := by rw [hpa]
    have HOK2 := Lib.hid (show okS (putR s (sortS ks y)).2 from by rw [hpa]; exact storeK_ok HSR.out.ok _ _)
    obtain ⟨f, F, rfl, hfil, hF⟩ : ∃ f F, v = .pointer (some ⟨f, 0, none⟩) ∧ Fil F w2 f p (putR s (sortS ks y)).1.1 (sortS ks y).length ∧ ∀ b, F b → w1.heap.size ≤ b ∧ ¬ O2 b := by
      rcases hv with ⟨h, -⟩ | ⟨-, h⟩
      · exact absurd h0 h
      · exact h
    rw [h0]
    have HFIL := Lib.hid hfil
    have HFN := Lib.hid (show ∀ x, F x → w.heap.size ≤ x ∧ ¬ O2 x from fun x hx => ⟨by have := (hF x hx).1; omega, (hF x hx).2⟩)
    have H0 := Lib.hid h0
    clear hv hpa h0 hms hroom hfil hF
    go_wp2_with fail
    refine ⟨HOB.out, hK0 _ _ ?_⟩
    clear hK0 K0
    refine wpSegs_none ?_
    repeat go_big_quiet_step (fail)
    refine wpQuiet_nil (wpSegs_nil ?_)
    have hsr := HSR.out
    have hrow2 := own_others hsr.mem.row HON2.out fun x hx h2 => hsr.ow x h2 (.inr (.inl hx))
    have hblk2 : Wk5 w2 t p q (.slice ka ks.length kc) held R := hsr.mem.blk.onlyS HON2.out fun h2 => hsr.ow t h2 (.inl rfl)
    obtain ⟨N, hN⟩ : ∃ N, rs.length = N := ⟨_, rfl⟩
    have HN := Lib.hid hN
    rw [hN] at hrow2
    obtain ⟨ra, rc, hR, -, -⟩ := own_shapeP hrow2
    have HSHP := Lib.hid hR
    rw [hR] at hrow2 hblk2
    have HROW2 := Lib.hid hrow2
    have HBLK2 := Lib.hid hblk2
    obtain ⟨i1, hi1, hy0, hy1, hy2⟩ := info_parts Tryz.info_file
    have hN10 : N ≤ 10000000 := by have := HAL.out; omega
    have hB2 : B ≤ w2.heap.size := Nat.le_trans hsr.wB HON2.out.size
    have h1c : ∀ v ∈ [Value.pointer (some ⟨f, 0, none⟩)], v.oneCell' = true := fun v hv => by rw [List.mem_singleton] at hv; rw [hv]; rfl
    have c4 := hblk2.cell 4 _ rfl
    clear hrow2 hblk2 hsr hR hN
    go_wp2_with (at_builtin; go_loud (refine wpList_append_oneG rfl (.tmp 28) (.tmp 30) 80 rfl B 104 i1 (.pointer none) 1 8 Tryz.underlying80 hi1 hy0 hy1 hy2 rfl (by decide) (by decide) (.slice ra N rc) N (rs.map ptrR) [.pointer (some ⟨f, 0, none⟩)] rfl HROW2.out rfl rfl h1c hN10 hB2 ?_); intro v5 w5 h5a h5b h5c h5d; obtain ⟨qa, qc, rfl, -, -⟩ := own_shapeP h5a; have HO5 := Lib.hid h5a; have HY5 := Lib.hid h5c; have HG5 := Lib.hid h5d; have HB5 := Lib.hid (show Wk5 w5 t p q (.slice ka ks.length kc) held (.slice ra N rc) from HBLK2.out.others h5c fun e => HSR.out.mem.rt (by rw [HSHP.out]; exact e)); have z4 := HB5.out.cell 4 _ rfl; have f4 := HB5.out.free 4; clear h5a h5b h5c h5d)
    have hsr := HSR.out
    have hs6 := only_setL t 4 w5 (.slice qa (N + 1) qc)
    have hqw : q < w.heap.size := by have := hsr.qB; have := hsr.wB; omega
    have htw := hsr.mem.blk.lt
    have hqt : q ≠ t := by have := hsr.qB; have := hsr.mem.tB; omega
    have hrl : ∀ x, (Value.slice ra N rc).ownBlock = some x → R.ownBlock = some x ∧ x < w.heap.size ∧ x ≠ q ∧ x ≠ t ∧ ¬ O2 x ∧ ¬ F x := fun x hx => by
      have h1 : R.ownBlock = some x := by rw [HSHP.out]; exact hx
      have h2 := hsr.mem.row.lt x h1
      refine ⟨h1, h2.2, by have := hsr.qB; omega, fun e => hsr.mem.rt (by rw [← e]; exact h1), fun h3 => ?_, fun h3 => ?_⟩
      · rcases HO2.out x h3 with h4 | h4
        · exact hsr.ow x h4 (.inr (.inl h1))
        · omega
      · have := (HFN.out x h3).1; omega
    have ht2 : ¬ O2 t ∧ ¬ F t := ⟨fun h3 => by
      rcases HO2.out t h3 with h4 | h4
      · exact hsr.ow t h4 (.inl rfl)
      · omega, fun h3 => by have := (HFN.out t h3).1; omega⟩
    have hq2 : ¬ O2 q ∧ ¬ F q := ⟨fun h3 => by
      rcases HO2.out q h3 with h4 | h4
      · exact hsr.oq h4
      · omega, fun h3 => by have := (HFN.out q h3).1; omega⟩
    obtain ⟨pk, hpk⟩ := hsr.pur
    have hpu6 := ((hpk.onlyS HON2.out hsr.oq).onlyS HY5.out fun e => (hrl q e).2.2.1 rfl).onlyS hs6 hqt
    have hb6 : Wk5 (w5.setCell ⟨t, 4, none⟩ (.slice qa (N + 1) qc)) t p q (.slice ka ks.length kc) held (.slice qa (N + 1) qc) := HB5.out.set 4 _
    have HGV := Lib.hid (pGiveAll18_any t p q _ _ held ⟨most, base + held, pk⟩ _ hb6 hpu6 hqt hsr.h0 (by simp only; omega))
    have HP6 := Lib.hid ((HP2.out.onlyS HY5.out fun x hx e => (hrl x e).2.2.2.2.1 hx).onlyS hs6 fun x hx e => ht2.1 (e ▸ hx))
    have HFIL6 := Lib.hid ((HFIL.out.keep HY5.out fun x e hx => (hrl x e).2.2.2.2.2 hx).keep hs6 fun x e hx => ht2.2 (e ▸ hx))
    have HO6 := Lib.hid (own_others HO5.out hs6 fun x hx e => HB5.out.apart HO5.out (by decide) (e ▸ hx))
    have hsz2 := HON2.out.size
    have HON6 := Lib.hid (show OnlyS (fun x => O x ∨ x = q ∨ x = t ∨ R.ownBlock = some x) w (w5.setCell ⟨t, 4, none⟩ (.slice qa (N + 1) qc)) from OnlyS.trans (HON2.out.mono fun x _ hx => .inl hx) (OnlyS.trans (HY5.out.mono fun x _ hx => (.inr (hrl x hx).1 : x = t ∨ R.ownBlock = some x)) (hs6.mono fun x _ e => .inl e) fun _ _ h => h) fun x _ hx => .inr (.inr hx))
    have HRN := Lib.hid (show ∀ x, (Value.slice qa (N + 1) qc).ownBlock = some x → (R.ownBlock = some x ∨ w.heap.size ≤ x) ∧ ¬ O2 x ∧ ¬ F x from fun x hx => by
      rcases HG5.out with h1 | ⟨k, h1, h2⟩
      · have h3 := hrl x (h1 ▸ hx)
        exact ⟨.inl h3.1, h3.2.2.2.2⟩
      · rw [h1] at hx
        have hkx := Option.some.inj hx
        subst hkx
        refine ⟨.inr (by omega), fun h3 => ?_, fun h3 => ?_⟩
        · have := HP2.out.lt k h3; omega
        · have := HFIL.out.lt h3; omega)
    have HT2 := Lib.hid ht2
    have HQ2 := Lib.hid hq2
    have HRL := Lib.hid hrl
    have HAP := Lib.hid (hb6.apart HO6.out (by decide))
    have HQR := Lib.hid (show (Value.slice qa (N + 1) qc).ownBlock ≠ some q from fun e => by
      rcases (HRN.out q e).1 with h1 | h1
      · have := (hsr.mem.row.lt q h1).1
        have := hsr.qB
        omega
      · omega)
    clear hs6 hqw htw hrl ht2 hq2 hpu6 hb6 c4 z4 f4 hsr
    go_wp2_with fail
    refine HGV.out.mono ?_
    rintro e w7 ⟨rfl, ho7, hpu7, hb7⟩
    have HO7 := Lib.hid ho7
    have HPU7 := Lib.hid hpu7
    have HB7 := Lib.hid hb7
    clear ho7 hpu7 hb7
    go_wp2_with fail
    go_ret
    have hsr := HSR.out
    have ho7 := HO7.out
    have hpu7 := HPU7.out
    have e0 : base + held - held = base + 0 := by omega
    simp only [e0] at hpu7
    have hlen : (rs ++ [(⟨f, F, (putR s (sortS ks y)).1.1, y⟩ : Run)]).length = N + 1 := by rw [List.length_append, HN.out]; rfl
    have hmap : (rs ++ [(⟨f, F, (putR s (sortS ks y)).1.1, y⟩ : Run)]).map ptrR = rs.map ptrR ++ [.pointer (some ⟨f, 0, none⟩)] := by rw [List.map_append]; rfl
    have hrow7 := own_others HO6.out ho7 fun x hx h2 => by
      rcases h2 with h2 | h2
      · exact HQR.out (h2 ▸ hx)
      · exact HAP.out (h2 ▸ hx)
    have hfil7 := HFIL6.out.keep ho7 fun x h2 hx => by
      rcases h2 with h2 | h2
      · exact HQ2.out.2 (h2 ▸ hx)
      · exact HT2.out.2 (h2 ▸ hx)
    have hp7 := HP6.out.onlyS ho7 fun x hx h2 => by
      rcases h2 with h2 | h2
      · exact HQ2.out.1 (h2 ▸ hx)
      · exact HT2.out.1 (h2 ▸ hx)
    have hon7 : OnlyS (fun x => O x ∨ x = q ∨ x = t ∨ R.ownBlock = some x) w w7 := OnlyS.trans HON6.out ho7 fun x _ hx => by
      rcases hx with hx | hx
      · exact .inr (.inl hx)
      · exact .inr (.inr (.inl hx))
    have hfin := hsr.more (r' := ⟨f, F, (putR s (sortS ks y)).1.1, y⟩) hp7 HOK2.out HO2.out ⟨_, hpu7⟩ hon7 HB7.out (by rw [hlen, hmap]; exact hrow7) HRN.out (by rw [sortS_length] at hfil7; exact hfil7) HFN.out (hsr.dsk.put HM.out H0.out f F) HM.out
    exact ⟨0, O2, _, 0, _, _, rfl, hfin, hon7.mono fun x _ hx => by
      rcases hx with hx | hx | rfl | hx
      · exact .inl hx
      · exact .inr (.inl hx)
      · exact .inr (.inr hsr.mem.tB)
      · exact .inr (.inr (hsr.mem.row.lt x hx).1), HO2.out, .inl ⟨rfl, rfl, _, rfl, rfl⟩⟩
end Go.Proofs.YtaoegcakefodaaaGreat

namespace Go.Proofs.YtaoegcakefodaaaGreat
open Go.RowKit Go.BigFrame
theorem runsG_ge : ∀ (most : Int) (l : List (List V)) (n : Nat) (left : Int), (runsG most l n left).2 = 0 → n ≤ (runsG most l n left).1
  | _, [], n, _, _ => Nat.le_refl _
  | most, r :: t, n, left, h => by
    rw [runsG] at h ⊢
    split at h
    · cases h
    · rename_i h1
      rw [if_neg h1]
      split at h
      · rename_i h2
        rw [if_pos h2]
        have := runsG_ge most t (n + 1) _ h
        omega
      · rename_i h2
        rw [if_neg h2]
        exact runsG_ge most t n _ h
theorem rd_rows18 {W : World} {g off N cap : Nat} {rows : List (List V)} (h : RdRV W (.slice (some ⟨g, off, none⟩) N cap) rows) {A T : Nat} (hA : A ≤ T) (hT : T ≤ N) : RdRV W (.slice (some ⟨g, off + A, none⟩) (T - A) (cap - A)) ((rows.drop A).take (T - A)) := by
  obtain ⟨hs, h1, h2⟩ := h
  obtain ⟨e, e1, e2, hat⟩ := RdV.plainV h1
  have hlen : ((hs.drop A).take (T - A)).length = T - A := by rw [List.length_take, List.length_drop]; omega
  refine ⟨(hs.drop A).take (T - A), .inr ⟨⟨g, off + A, none⟩, cap - A, by rw [hlen], by omega, by omega, fun i u hu => ?_⟩, (h2.drop A).take _⟩
  rw [List.getElem?_take] at hu
  split at hu
  · rw [List.getElem?_drop] at hu
    obtain ⟨g', off', e3, e4⟩ := hat (A + i) u hu
    simp only [Option.some.injEq, Addr.mk.injEq, and_true] at e3
    obtain ⟨rfl, rfl⟩ := e3
    rw [add_at, Nat.add_assoc]
    exact e4
  · cases hu
def Split18 (B p q t : Nat) (ks : List Ky) (K : Value) (s0 : St) (most base : Int) (rows : List (List V)) (O : Nat → Prop) (w : World) (e : Ending) (w' : World) : Prop :=
  ∃ (out : Value) (E : Int) (O' : Nat → Prop) (s' : St) (held' : Int) (R' : Value) (rs' : List Run), e = .returned (.tuple #[out, .int .i64 E]) ∧ Srt B p q t ks K s0 most base O' w' s' held' R' rs' ∧ OnlyS (fun x => O x ∨ x = q ∨ B ≤ x) w w' ∧ (∀ x, O' x → O x ∨ w.heap.size ≤ x) ∧
    ((E = 0 ∧ ∃ fst, fst ≤ rows.length ∧ (∀ W, OnlyS (fun x => O x ∨ x = q ∨ B ≤ x) w W → RdRV W out (rows.drop fst)) ∧ rs'.flatMap Run.y = rows.take fst ∧ rs'.length ≤ fst ∧ (0 < rows.length → fst < rows.length) ∧ (runsR rows (most - base)).2 = 0 ∧ (runsR rows (most - base)).1 = rs'.length + (if rows.length = 0 then 0 else 1)) ∨
     (E = 5 ∧ out = .slice none 0 0 ∧ (runsR rows (most - base)).2 ≠ 0 ∧ ∃ x ∈ rows, most - base < rowCost x) ∨
     (E = 4 ∧ out = .slice none 0 0 ∧ ∃ n, NoRoom s0 rows n ∧ n ≤ rows.length ∧ ((runsR rows (most - base)).2 = 0 → n ≤ (runsR rows (most - base)).1 ∧ 2 ≤ (runsR rows (most - base)).1)))
section
variable {B p q t : Nat} {ks : List Ky} {K : Value} {s0 : St} {most base : Int} {O : Nat → Prop} {w : World} {s : St} {held : Int} {R : Value} {rs : List Run}
theorem Srt.took (h : Srt B p q t ks K s0 most base O w s held R rs) {w' : World} {held' : Int} (hpu : ∃ pk, PurS w' q ⟨most, base + held', pk⟩) (ho : OnlyS (fun b => b = q ∨ b = t) w w') (hb : Wk5 w' t p q K held' R) (h0 : 0 ≤ held') : Srt B p q t ks K s0 most base O w' s held' R rs := by
  have hqt : ∀ x, (x = q ∨ x = t) → x = t ∨ ¬ WkO t R rs x := fun x hx => by
    rcases hx with rfl | hx
    · exact .inr fun h2 => by
        have := (h.mem.lt h2).1
        have := h.qB
        omega
    · exact .inl hx
  refine h.same (h.sto.onlyS ho fun x hx h2 => ?_) (fun x hx => .inl hx) hpu ho hqt hb h0
  rcases h2 with rfl | rfl
  · exact h.oq hx
  · exact h.ow _ hx (.inl rfl)
end
set_option maxRecDepth 100000 in
set_option maxHeartbeats 8000000 in
theorem pSplit18_any (B p q t : Nat) (ks : List Ky) (K : Value) (s0 : St) (most base : Int) (O : Nat → Prop) (w : World) (u : Value) (rows : List (List V)) (h : Srt B p q t ks K s0 most base O w s0 0 (.slice none 0 0) [])
    (hu : ∀ W, OnlyS (fun x => O x ∨ x = q ∨ B ≤ x) w W → RdRV W u rows) (hK : ∀ W, OnlyS (fun x => O x ∨ x = q ∨ B ≤ x) w W → RdKs W K ks) (hfit : FitB rows) (hm : ∀ x ∈ rows, mayR x = 0) (hb0 : 0 ≤ base) :
    Calls Tryz.prog 40 #[.pointer (some ⟨t, 0, none⟩), u] w (Split18 B p q t ks K s0 most base rows O w) := by
  obtain ⟨ua, uc, rfl, hu1, hu2⟩ := (hu w (OnlyS.refl _ _)).shape
  unfold maxLen at hu2
  obtain ⟨N, hN⟩ : ∃ N, rows.length = N := ⟨_, rfl⟩
  have HN := Lib.hid hN
  have HSR := Lib.hid h
  have HU := Lib.hid hu
  have HK := Lib.hid hK
  have HFIT := Lib.hid hfit
  have HM := Lib.hid hm
  have hN1000 : N ≤ 1000 := by have := hfit.1; omega
  have hbd := h.bounds
  rw [hN] at hu1 HU ⊢
  have HBD := Lib.hid hbd
  have HCOST := Lib.hid hfit.cost
  clear h hu hK hfit hm hN hbd
  by_cases hz : N = 0
  · subst hz
    obtain ⟨i1, hi1, hy0, hy1, hy2⟩ := info_parts Tryz.info_row
    have hnil : rows = [] := List.eq_nil_of_length_eq_zero HN.out
    obtain ⟨hs, h1, h2⟩ := HU.out w (OnlyS.refl _ _)
    obtain ⟨a', c', k1, k2⟩ := slice_restV Tryz.underlying22 hi1 hy1 h1 0 (by omega)
    have hhs : hs = [] := List.eq_nil_of_length_eq_zero (by have := h2.1; rw [hnil] at this; exact this)
    have k3 : ∀ W : World, RdRV W (.slice a' 0 c') [] := fun W => ⟨[], by
      rw [hhs] at k1
      rcases k1 with ⟨e, -⟩ | ⟨x, c, e, e1, e2, -⟩
      · exact .inl ⟨e, rfl⟩
      · exact .inr ⟨x, c, e, e1, e2, fun i u hu => by simp at hu⟩, HdRows.nil W⟩
    have K3 := Lib.hid k3
    have k4 : ∀ W, (Instr.slice 22 (.slice ua 0 uc) (some (.int .i64 0)) none none).run Tryz.prog W = .ok (.slice a' 0 c') W := fun W => k2 W
    clear h1 h2 k1 k2 k3 hhs
    go_enter Tryz.func40, Tryz.ntmps40
    go_wp2_with fail
    go_loopw [6, 13] (fun fv iv wr => fv = .int .i64 0 ∧ iv = .int .i64 0 ∧ wr = w) (fun _ _ _ => 0)
    case atStart => exact ⟨rfl, rfl, rfl⟩
    case round =>
      obtain ⟨rfl, rfl, rfl⟩ := hrel
      go_wp2_with fail
      go_ret2
      subst hnil
      exact ⟨_, 0, O, s0, 0, _, [], rfl, HSR.out, OnlyS.refl _ _, fun x hx => .inl hx, .inl ⟨rfl, 0, Nat.le_refl _, fun W _ => K3.out W, rfl, Nat.le_refl _, fun h => h, rfl, rfl⟩⟩
  · obtain ⟨g, off, hua⟩ : ∃ g off, ua = some ⟨g, off, none⟩ := by
      obtain ⟨hs, h1, h2⟩ := HU.out w (OnlyS.refl _ _)
      have hl : 0 < hs.length := by rw [h2.1, HN.out]; omega
      obtain ⟨g, off, e, -⟩ := (RdV.plainV h1).2.2.2 0 _ (List.getElem?_eq_getElem hl)
      exact ⟨g, off, e⟩
    subst hua
    obtain ⟨left, hleft⟩ : ∃ left, most - base = left := ⟨_, rfl⟩
    have HLEFT := Lib.hid hleft
    clear hleft
    go_enter Tryz.func40, Tryz.ntmps40
    go_wp2_with fail
    go_loopw [6, 13] (fun fv iv wr => ∃ (j fst n : Nat) (Oj : Nat → Prop) (sj : St) (held : Int) (R : Value) (rs : List Run), j ≤ N ∧ fst ≤ j ∧ fv = .int .i64 fst ∧ iv = .int .i64 j ∧ Srt B p q t ks K s0 most base Oj wr sj held R rs ∧ OnlyS (fun x => O x ∨ x = q ∨ B ≤ x) w wr ∧ (∀ x, Oj x → O x ∨ w.heap.size ≤ x) ∧ rs.flatMap Run.y = rows.take fst ∧ rs.length ≤ fst ∧ (0 < j → fst < j) ∧ ((j = 0 ∧ n = 0 ∧ held = 0) ∨ (0 < j ∧ n = rs.length + 1)) ∧ runsG left (rows.drop j) n (left - held) = runsR rows left) (fun _ iv _ => N - (intOf iv).toNat)
    case atStart =>
      refine ⟨0, 0, 0, O, s0, 0, _, [], Nat.zero_le _, Nat.le_refl _, rfl, rfl, HSR.out, OnlyS.refl _ _, fun x hx => .inl hx, rfl, Nat.le_refl _, fun h => h, .inl ⟨rfl, rfl, rfl⟩, ?_⟩
      rw [List.drop_zero]
      unfold runsR
      cases rows with
      | nil => have := HN.out; simp at this; omega
      | cons r tl =>
        by_cases h1 : left < rowCost r
        · rw [runsG_too h1, runsG_too h1]
        · rw [runsG_new h1 (.inl rfl), runsG_new h1 (.inl rfl)]
    case round =>
      obtain ⟨j, fst, n, Oj, sj, held, R, rs, hj, hfj, rfl, rfl, hS, ho, hO, hy, hrl, hfl, hn, hG⟩ := hrel
      have HS := Lib.hid hS
      have HO := Lib.hid ho
      have HON := Lib.hid hO
      have HY := Lib.hid hy
      have HRL := Lib.hid hrl
      have HFL := Lib.hid hfl
      have HNN := Lib.hid hn
      have HG := Lib.hid hG
      have hbd := hS.bounds
      have h0 := hS.h0
      have hqt : q ≠ t := by have := hS.qB; have := hS.mem.tB; omega
      have hON2 : ∀ (O1 : Nat → Prop), (∀ x, O1 x → Oj x ∨ wr.heap.size ≤ x) → ∀ x, O1 x → O x ∨ w.heap.size ≤ x := fun O1 h1 x hx => by
        have := HO.out.size
        rcases h1 x hx with h3 | h3
        · exact HON.out x h3
        · exact .inr (by omega)
      have HON2 := Lib.hid hON2
      clear hS ho hO hy hrl hfl hn hG hON2
      by_cases hlt : j < N
      · have hjl : j < rows.length := by rw [HN.out]; exact hlt
        obtain ⟨g', off', ra, rn, rc, hg', -, hfix⟩ := rows_fixed (fun W hW => (HU.out W hW).rd) j hjl
        simp only [Option.some.injEq, Addr.mk.injEq, and_true] at hg'
        obtain ⟨rfl, rfl⟩ := hg'
        obtain ⟨c0, hr2⟩ := hfix wr HO.out
        have hdrop : rows.drop j = rows[j] :: rows.drop (j + 1) := List.drop_eq_getElem_cons hjl
        have hcst := HCOST.out rows[j] (List.getElem_mem hjl)
        have hmemr := List.getElem_mem hjl
        have HG2 := Lib.hid (show runsG left (rows[j] :: rows.drop (j + 1)) n (left - held) = runsR rows left from by rw [← hdrop]; exact HG.out)
        generalize rows[j] = r at hr2 hcst HG2 hmemr hfix
        have HFIX := Lib.hid (fun W hW => (hfix W hW).2)
        have HMR := Lib.hid hmemr
        obtain ⟨pk, hpk⟩ := HS.out.pur
        have HTK := Lib.hid (pTake18_any t p q K R held ⟨most, base + held, pk⟩ _ r wr HS.out.mem.blk hpk hqt hr2 hcst h0 (by omega))
        have HRD := Lib.hid (fun W (hW : OnlyS (fun x => O x ∨ x = q ∨ B ≤ x) w W) => (by
          obtain ⟨hs', k1, k2⟩ := HU.out W hW
          exact rd_rows18 ⟨hs', k1, k2⟩ : ∀ {A T : Nat}, A ≤ T → T ≤ N → RdRV W (.slice (some ⟨g, off + A, none⟩) (T - A) (uc - A)) ((rows.drop A).take (T - A))))
        have HR2 := Lib.hid hr2
        clear hr2 hdrop hpk hmemr hjl hfix
        go_wp2_with fail
        refine HTK.out.mono ?_
        rintro e w1 ⟨ho1, ⟨hle, rfl, ⟨pk1, hpu1⟩, hb1⟩ | ⟨hgt, rfl, hpu1, hb1⟩⟩
        · simp only at hle hpu1
          have HS1 := Lib.hid (HS.out.took (held' := held + rowCost r) ⟨pk1, by rw [← Int.add_assoc]; exact hpu1⟩ ho1 hb1 (by have := rowCost_pos r; omega))
          have HO1 := Lib.hid (HO.out.chain (ho1.mono fun x _ hx => hx.elim (fun h => .inr (.inl h)) fun h => .inr (.inr (by rw [h]; exact HS.out.mem.tB))) HON.out)
          have HLE := Lib.hid hle
          clear ho1 hle hpu1 hb1 HTK c0
          go_wp2_with fail
          go_roundw
          case rel =>
            have hle := HLE.out
            have hl := HLEFT.out
            have hG := HG2.out
            have hn := HNN.out
            have hfl := HFL.out
            refine ⟨j + 1, fst, if j = 0 then 1 else n, Oj, sj, held + rowCost r, R, rs, by omega, by omega, rfl, by go_num, HS1.out, HO1.out, HON.out, HY.out, HRL.out, fun _ => by
              rcases Nat.eq_zero_or_pos j with h | h
              · omega
              · have := hfl h; omega, .inr ⟨by omega, ?_⟩, ?_⟩
            · rcases hn with ⟨rfl, -, -⟩ | ⟨h, hn⟩
              · have h1 := HRL.out
                rw [if_pos rfl]
                omega
              · rw [if_neg (by omega), hn]
            · rw [← hG]
              have hno : ¬ left < rowCost r := by omega
              rcases hn with ⟨rfl, rfl, rfl⟩ | ⟨h, hn⟩
              · rw [runsG_new hno (.inl rfl), if_pos rfl]
                congr 1
                omega
              · rw [runsG_in hno (by omega), if_neg (by omega)]
                congr 1
                omega
          case measure => simp [intOf]; omega
        · simp only at hgt
          have HS1 := Lib.hid (HS.out.took (held' := held) ⟨pk, hpu1⟩ ho1 hb1 h0)
          have HO1 := Lib.hid (HO.out.chain (ho1.mono fun x _ hx => hx.elim (fun h => .inr (.inl h)) fun h => .inr (.inr (by rw [h]; exact HS.out.mem.tB))) HON.out)
          have HGT := Lib.hid hgt
          have hsz1 := ho1.size
          clear ho1 hgt hpu1 hb1 HTK c0
          by_cases hf : fst < j
          · have d1 : ¬ uc = fst := by omega
            have e1 : decide ((fst : Int) < (j : Int)) = true := decide_eq_true (by omega)
            have e2 : decide (fst < j) = true := decide_eq_true hf
            have hysub : ∀ x ∈ (rows.drop fst).take (j - fst), x ∈ rows := fun x hx => List.mem_of_mem_drop (List.mem_of_mem_take hx)
            have hyl : ((rows.drop fst).take (j - fst)).length ≤ rows.length := by rw [List.length_take, List.length_drop]; omega
            have HLAY := Lib.hid (pLay18_any B p q t ks K s0 most base Oj w1 sj held R _ rs ((rows.drop fst).take (j - fst)) HS1.out (HRD.out w1 HO1.out hfj hj) (HK.out w1 HO1.out) (HFIT.out.sub hyl hysub) (fun x hx => HM.out x (hysub x hx)) (by have := HRL.out; omega) hb0)
            clear hysub hyl
            go_wp2_with fail
            refine HLAY.out.mono ?_
            rintro e w2 ⟨E, O2, s2, held2, R2, rs2, rfl, hS2, ho2, hO2, hE⟩
            have HS2 := Lib.hid hS2
            have HO2 := Lib.hid (HO1.out.chain ho2 HON.out)
            have HON3 := Lib.hid (HON2.out O2 fun x hx => (hO2 x hx).imp id fun h => by omega)
            have hbd2 := hS2.bounds
            clear hS2 ho2 hO2 HLAY
            rcases hE with ⟨rfl, rfl, r', rfl, hry⟩ | ⟨rfl, rfl, rfl, hno⟩
            · have HRY := Lib.hid hry
              obtain ⟨pk2, hpk2⟩ := HS2.out.pur
              have hrd2 : RdVals w2 (.slice ra rn rc) r := HFIX.out w2 HO2.out
              have HTK2 := Lib.hid (pTake18_any t p q K R2 0 ⟨most, base + 0, pk2⟩ _ r w2 HS2.out.mem.blk hpk2 hqt hrd2 hcst (Int.le_refl _) (by omega))
              clear hry hpk2 hrd2
              go_wp2_with fail
              refine HTK2.out.mono ?_
              rintro e w3 ⟨ho3, ⟨hle, rfl, ⟨pk3, hpu3⟩, hb3⟩ | ⟨hgt3, rfl, hpu3, hb3⟩⟩
              · simp only at hle hpu3
                have HS3 := Lib.hid (HS2.out.took (held' := 0 + rowCost r) ⟨pk3, by rw [← Int.add_assoc]; exact hpu3⟩ ho3 hb3 (by have := rowCost_pos r; omega))
                have HO3 := Lib.hid (HO2.out.chain (ho3.mono fun x _ hx => hx.elim (fun h => .inr (.inl h)) fun h => .inr (.inr (by rw [h]; exact HS.out.mem.tB))) HON3.out)
                have HLE := Lib.hid hle
                clear ho3 hle hpu3 hb3 HTK2
                go_wp2_with fail
                go_roundw
                case rel =>
                  have hle := HLE.out
                  have hl := HLEFT.out
                  have hG := HG2.out
                  have hn := HNN.out
                  have hrl := HRL.out
                  have hgt := HGT.out
                  refine ⟨j + 1, j, n + 1, O2, s2, 0 + rowCost r, R2, _, by omega, by omega, rfl, by go_num, HS3.out, HO3.out, HON3.out, ?_, ?_, fun _ => by omega, .inr ⟨by omega, ?_⟩, ?_⟩
                  · rw [List.flatMap_append, HY.out, List.flatMap_cons, List.flatMap_nil, List.append_nil, HRY.out]
                    have e : j = fst + (j - fst) := by omega
                    conv => rhs; rw [e]
                    exact List.take_add.symm
                  · rw [List.length_append, List.length_singleton]
                    omega
                  · rw [List.length_append, List.length_singleton]
                    rcases hn with ⟨h, -, -⟩ | ⟨h, hn⟩
                    · omega
                    · omega
                  · rw [← hG, runsG_new (by omega) (.inr (by omega))]
                    congr 1
                    omega
                case measure => simp [intOf]; omega
              · simp only at hgt3
                have HS3 := Lib.hid (HS2.out.took (held' := 0) ⟨pk2, hpu3⟩ ho3 hb3 (Int.le_refl _))
                have HO3 := Lib.hid (HO2.out.chain (ho3.mono fun x _ hx => hx.elim (fun h => .inr (.inl h)) fun h => .inr (.inr (by rw [h]; exact HS.out.mem.tB))) HON3.out)
                have HG3 := Lib.hid hgt3
                clear ho3 hgt3 hpu3 hb3 HTK2
                go_wp2_with fail
                go_ret2
                have hl := HLEFT.out
                have hg3 := HG3.out
                have hG := HG2.out
                rw [runsG_too (by omega)] at hG
                exact ⟨_, 5, O2, s2, 0, R2, _, rfl, HS3.out, HO3.out, HON3.out, .inr (.inl ⟨rfl, rfl, by rw [hl, ← hG]; decide, r, HMR.out, by omega⟩)⟩
            · have HNR := Lib.hid hno
              clear hno
              go_wp2_with fail
              go_ret2
              have hl := HLEFT.out
              have hG := HG2.out
              have hgt := HGT.out
              have hrl := HRL.out
              have hn := HNN.out
              have hjn := HN.out
              have hnr : NoRoom s0 rows (rs2.length + 1) := HS1.out.dsk.noRoom (y := (rows.drop fst).take (j - fst)) (rest := rows.drop j) (by
                rw [HY.out]
                have e : rows.drop j = (rows.drop fst).drop (j - fst) := by rw [List.drop_drop]; congr 1; omega
                rw [e, List.take_append_drop, List.take_append_drop]) HNR.out
              refine ⟨_, 4, O2, s2, held2, R2, rs2, rfl, HS2.out, HO2.out, HON3.out, .inr (.inr ⟨rfl, rfl, rs2.length + 1, hnr, by omega, fun hr => ?_⟩)⟩
              have hnn : n = rs2.length + 1 := by
                rcases hn with ⟨h, -, -⟩ | ⟨h, hn⟩
                · omega
                · exact hn
              rw [hl] at hr ⊢
              rw [← hG] at hr ⊢
              by_cases h1 : left < rowCost r
              · rw [runsG_too h1] at hr
                cases hr
              · rw [runsG_new h1 (.inr (by omega))] at hr ⊢
                have := runsG_ge _ _ _ _ hr
                omega
          · have hj0 : j = 0 := by
              have := HFL.out
              omega
            have e1 : decide ((fst : Int) < (j : Int)) = false := decide_eq_false (by omega)
            have e2 : decide (fst < j) = false := decide_eq_false hf
            go_wp2_with fail
            go_ret2
            have hl := HLEFT.out
            have hgt := HGT.out
            have hn := HNN.out
            have hG := HG2.out
            have hh : held = 0 := by
              rcases hn with ⟨-, -, h⟩ | ⟨h, -⟩
              · exact h
              · omega
            rw [runsG_too (by omega)] at hG
            exact ⟨_, 5, Oj, sj, held, R, rs, rfl, HS1.out, HO1.out, HON.out, .inr (.inl ⟨rfl, rfl, by rw [hl, ← hG]; decide, r, HMR.out, by omega⟩)⟩
      · obtain rfl : j = N := by omega
        have hfst : fst < j := by have := HFL.out; omega
        have d1 : ¬ uc = fst := by omega
        have HRD := Lib.hid (fun W (hW : OnlyS (fun x => O x ∨ x = q ∨ B ≤ x) w W) => rd_rows18 (HU.out W hW) hfj (Nat.le_refl j))
        go_wp2_with fail
        go_ret2
        have hn := HNN.out
        have hG := HG.out
        have hjn := HN.out
        have hl := HLEFT.out
        rw [List.drop_of_length_le (by omega)] at hG
        have hG' : (n, (0 : Int)) = runsR rows left := hG
        refine ⟨_, 0, Oj, sj, held, R, rs, rfl, HS.out, HO.out, HON.out, .inl ⟨rfl, fst, by omega, fun W hW => ?_, HY.out, HRL.out, fun _ => by omega, by rw [hl, ← hG'], ?_⟩⟩
        · have := HRD.out W hW
          rw [List.take_of_length_le (by rw [List.length_drop]; omega)] at this
          exact this
        · rw [hl, ← hG', if_neg (by omega)]
          rcases hn with ⟨h, -, -⟩ | ⟨-, h⟩
          · omega
          · exact h
end Go.Proofs.YtaoegcakefodaaaGreat

