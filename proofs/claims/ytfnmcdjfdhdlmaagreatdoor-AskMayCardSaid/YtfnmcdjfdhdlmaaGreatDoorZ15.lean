/-
  Texts of this proof, merged: MayR3, MayP5, AskStack.
-/
import Derived.Shelf.Abstract
import Derived.Test.YtfnmcdjfdhdlmaaGreatDoorZ14
import Derived.Test.YtfnmcdjfdhdlmaaGreatDoorZ13
import Derived.Test.YtfnmcdjfdhdlmaaGreatDoorZ4
/-
  The contracts of the document's own May: an And or an Or of what may come.
-/
namespace Go.Proofs.YtfnmcdjfdhdlmaaGreatDoor
open Go.ChangeAt Go.RowKit Go.BigFrame

theorem p3_self (t : T3) (i : Nat) (h : i < 3) : p3 t i (g3 t i) = t := by
  obtain ⟨a, b, c⟩ := t
  match i, h with
  | 0, _ => rfl
  | 1, _ => rfl
  | 2, _ => rfl
theorem accJ_next (or : Bool) (a b : T3) (x y : Nat) (hx : x < 3) (hy : y < 3) : accJ or a b (3 * x + y + 1) = p3 (accJ or a b (3 * x + y)) (jnI or x y) (g3 (accJ or a b (3 * x + y)) (jnI or x y) || (g3 a x && g3 b y)) := by
  rw [accJ_step or a b x y hy]
  cases hb : (g3 a x && g3 b y) with
  | false => rw [if_neg Bool.false_ne_true, Bool.or_false, p3_self _ _ (jnI_lt hx hy)]
  | true => rw [if_pos rfl, Bool.or_true]
theorem jn_min {x y : Nat} : ((jnI false x y : Nat) : Int) = min (x : Int) (y : Int) := by
  unfold jnI
  rw [if_neg Bool.false_ne_true]
  split <;> omega
theorem jn_max {x y : Nat} : ((jnI true x y : Nat) : Int) = max (x : Int) (y : Int) := by
  unfold jnI
  rw [if_pos rfl]
  split <;> omega

set_option maxRecDepth 100000 in
set_option maxHeartbeats 8000000 in
theorem refBoth_any (or : Bool) (a b : T3) (w : World) : Calls Tryz.prog 30 #[tripV a, tripV b, .bool or] w fun e w' => e = .returned (tripV (accJ or a b 9)) ∧ Ext w w' := by
  have HST := Lib.hid (fun x y hx hy => accJ_next or a b x y hx hy)
  have HS0 := Lib.hid (show accJ or a b 0 = (false, false, false) from rfl)
  have HLT := Lib.hid (fun (x y : Nat) (hx : x < 3) (hy : y < 3) => jnI_lt (or := or) hx hy)
  have HXX := Lib.hid (fun i (h : i < 3) => tL_at a i h)
  have HYY := Lib.hid (fun i (h : i < 3) => tL_at b i h)
  have HMN := Lib.hid (fun (x y : Nat) => And.intro (fun (h : or = false) => show ((jnI or x y : Nat) : Int) = min (x : Int) (y : Int) by rw [h]; exact jn_min) (fun (h : or = true) => show ((jnI or x y : Nat) : Int) = max (x : Int) (y : Int) by rw [h]; exact jn_max))
  obtain ⟨x, y, z⟩ := a
  obtain ⟨u, v, t⟩ := b
  unfold tripV
  simp only at HXX HYY ⊢
  generalize accJ or (x, y, z) (u, v, t) = ac at *
  generalize hga : g3 (x, y, z) = ga at HST HXX
  generalize hgb : g3 (u, v, t) = gb at HST HYY
  unfold tL at HXX HYY
  simp only at HXX HYY
  clear hga hgb
  have HBA := Lib.hid ((((Blk.new w [.bool x, .bool y, .bool z] 32).ext (ext_new _ (.cells #[.bool u, .bool v, .bool t] 32))).ext (ext_new _ (.cells #[.bool false, .bool false, .bool false] 32))).ext (ext_new _ (.cells #[.bool false, .bool false, .bool false] 32)))
  have HBB := Lib.hid ((blk_1 w (.cells #[.bool x, .bool y, .bool z] 32) (.cells #[.bool false, .bool false, .bool false] 32) [.bool u, .bool v, .bool t] 32).ext (ext_new _ (.cells #[.bool false, .bool false, .bool false] 32)))
  have HBR := Lib.hid (show Blk ((((w.alloc (.cells #[.bool x, .bool y, .bool z] 32)).alloc (.cells #[.bool u, .bool v, .bool t] 32)).alloc (.cells #[.bool false, .bool false, .bool false] 32)).alloc (.cells #[.bool false, .bool false, .bool false] 32)) (w.heap.size + 1 + 1) (tL (false, false, false)) 32 from by
    have h := (Blk.new ((w.alloc (.cells #[.bool x, .bool y, .bool z] 32)).alloc (.cells #[.bool u, .bool v, .bool t] 32)) [.bool false, .bool false, .bool false] 32).ext (ext_new _ (.cells #[.bool false, .bool false, .bool false] 32))
    simp only [World.alloc, Array.size_push] at h
    exact h)
  have HBM := Lib.hid (show Blk ((((w.alloc (.cells #[.bool x, .bool y, .bool z] 32)).alloc (.cells #[.bool u, .bool v, .bool t] 32)).alloc (.cells #[.bool false, .bool false, .bool false] 32)).alloc (.cells #[.bool false, .bool false, .bool false] 32)) (w.heap.size + 1 + 1 + 1) (tL (false, false, false)) 32 from by
    have h := Blk.new (((w.alloc (.cells #[.bool x, .bool y, .bool z] 32)).alloc (.cells #[.bool u, .bool v, .bool t] 32)).alloc (.cells #[.bool false, .bool false, .bool false] 32)) [.bool false, .bool false, .bool false] 32
    simp only [World.alloc, Array.size_push] at h
    exact h)
  have HXA := Lib.hid (Ext.trans (ext_3 w (.cells #[.bool x, .bool y, .bool z] 32) (.cells #[.bool u, .bool v, .bool t] 32) (.cells #[.bool false, .bool false, .bool false] 32)) (ext_new _ (.cells #[.bool false, .bool false, .bool false] 32)))
  go_enter Tryz.func30, Tryz.ntmps30
  go_upto_region 2 with fail
  generalize (((w.alloc (.cells #[.bool x, .bool y, .bool z] 32)).alloc (.cells #[.bool u, .bool v, .bool t] 32)).alloc (.cells #[.bool false, .bool false, .bool false] 32)).alloc (.cells #[.bool false, .bool false, .bool false] 32) = WA at HBA HBB HBR HBM HXA ⊢
  go_wp2_with fail
  go_loopw [8, 9, 10] (fun i _ _ wr => ∃ j : Nat, j ≤ 3 ∧ i = .int .i64 j ∧ Blk wr (w.heap.size + 1 + 1 + 1) (tL (ac (3 * j))) 32 ∧ Blk wr (w.heap.size + 1 + 1) (tL (false, false, false)) 32 ∧ Blk wr (w.heap.size + 1) [.bool u, .bool v, .bool t] 32 ∧ Blk wr w.heap.size [.bool x, .bool y, .bool z] 32 ∧ Ext w wr) (fun i _ _ _ => 3 - (intOf i).toNat)
  case atStart => exact ⟨0, Nat.zero_le _, rfl, by rw [HS0.out]; exact HBM.out, HBR.out, HBB.out, HBA.out, HXA.out⟩
  case round =>
    obtain ⟨j, hj, rfl, hbm, hbr, hbb, hba, hx⟩ := hrel
    have HM := Lib.hid hbm
    have HR := Lib.hid hbr
    have HB := Lib.hid hbb
    have HA := Lib.hid hba
    have HX := Lib.hid hx
    clear hbm hbr hbb hba hx HBM HBR HBB HBA HXA
    by_cases hlt : j < 3
    · have d3 : decide ((j : Int) < 3) = true := decide_eq_true (by omega)
      go_wp2_with fail
      go_loopw [9, 10] (fun i _ wr => ∃ k : Nat, k ≤ 3 ∧ i = .int .i64 k ∧ Blk wr (w.heap.size + 1 + 1 + 1) (tL (ac (3 * j + k))) 32 ∧ Blk wr (w.heap.size + 1 + 1) (tL (false, false, false)) 32 ∧ Blk wr (w.heap.size + 1) [.bool u, .bool v, .bool t] 32 ∧ Blk wr w.heap.size [.bool x, .bool y, .bool z] 32 ∧ Ext w wr) (fun i _ _ => 3 - (intOf i).toNat)
      case atStart => exact ⟨0, Nat.zero_le _, rfl, HM.out, HR.out, HB.out, HA.out, HX.out⟩
      case round =>
        obtain ⟨k, hk, rfl, hbm, hbr, hbb, hba, hx⟩ := hrel
        clear HM HR HB HA HX
        have HM := Lib.hid hbm
        have HR := Lib.hid hbr
        have HB := Lib.hid hbb
        have HA := Lib.hid hba
        have HX := Lib.hid hx
        clear hbm hbr hbb hba hx
        by_cases hlk : k < 3
        · have HS1 := Lib.hid (HST.out j k hlt hlk)
          generalize ac (3 * j + k) = tq at HM HS1
          have hm3 : jnI or j k < 3 := HLT.out j k hlt hlk
          have HNM := Lib.hid (HMN.out j k)
          obtain ⟨m, hm⟩ : ∃ m, jnI or j k = m := ⟨_, rfl⟩
          rw [hm] at HS1 hm3 HNM
          have d4 : decide ((k : Int) < 3) = true := decide_eq_true (by omega)
          have mf := HM.out.free m
          obtain ⟨qa, hqa⟩ : ∃ t, ga j = t := ⟨_, rfl⟩
          obtain ⟨qb, hqb⟩ : ∃ t, gb k = t := ⟨_, rfl⟩
          obtain ⟨qm, hqm⟩ : ∃ t, g3 tq m = t := ⟨_, rfl⟩
          rw [hqa, hqb, hqm] at HS1
          have mc := HM.out.cell m _ (tL_at tq m hm3)
          have xa := HA.out.cell j _ (HXX.out j hlt)
          have xb := HB.out.cell k _ (HYY.out k hlk)
          rw [hqm] at mc
          rw [hqa] at xa
          rw [hqb] at xb
          clear hqa hqb hqm hm
          cases or with
          | false =>
            have hmin : min (j : Int) (k : Int) = (m : Int) := (HNM.out.1 rfl).symm
            cases qm with
            | true =>
              go_wp2_with fail
              go_roundw
              case rel => exact ⟨k + 1, by omega, by go_num, by rw [show 3 * j + (k + 1) = 3 * j + k + 1 from rfl, HS1.out, ← tL_set tq m _ hm3]; exact HM.out.set m (.bool true), HR.out.beside (by omega) m _, HB.out.beside (by omega) m _, HA.out.beside (by omega) m _, Below.setCell HX.out (by show w.heap.size ≤ w.heap.size + 1 + 1 + 1; omega) _⟩
              case measure => first | (simp [intOf]; omega) | simp [intOf]
            | false =>
              cases qa with
              | false =>
                go_wp2_with fail
                go_roundw
                case rel => exact ⟨k + 1, by omega, by go_num, by rw [show 3 * j + (k + 1) = 3 * j + k + 1 from rfl, HS1.out, ← tL_set tq m _ hm3]; exact HM.out.set m (.bool false), HR.out.beside (by omega) m _, HB.out.beside (by omega) m _, HA.out.beside (by omega) m _, Below.setCell HX.out (by show w.heap.size ≤ w.heap.size + 1 + 1 + 1; omega) _⟩
                case measure => first | (simp [intOf]; omega) | simp [intOf]
              | true =>
                go_wp2_with fail
                go_roundw
                case rel => exact ⟨k + 1, by omega, by go_num, by rw [show 3 * j + (k + 1) = 3 * j + k + 1 from rfl, HS1.out, ← tL_set tq m _ hm3]; exact HM.out.set m (.bool qb), HR.out.beside (by omega) m _, HB.out.beside (by omega) m _, HA.out.beside (by omega) m _, Below.setCell HX.out (by show w.heap.size ≤ w.heap.size + 1 + 1 + 1; omega) _⟩
                case measure => first | (simp [intOf]; omega) | simp [intOf]
          | true =>
            have hmax : max (j : Int) (k : Int) = (m : Int) := (HNM.out.2 rfl).symm
            cases qm with
            | true =>
              go_wp2_with fail
              go_roundw
              case rel => exact ⟨k + 1, by omega, by go_num, by rw [show 3 * j + (k + 1) = 3 * j + k + 1 from rfl, HS1.out, ← tL_set tq m _ hm3]; exact HM.out.set m (.bool true), HR.out.beside (by omega) m _, HB.out.beside (by omega) m _, HA.out.beside (by omega) m _, Below.setCell HX.out (by show w.heap.size ≤ w.heap.size + 1 + 1 + 1; omega) _⟩
              case measure => first | (simp [intOf]; omega) | simp [intOf]
            | false =>
              cases qa with
              | false =>
                go_wp2_with fail
                go_roundw
                case rel => exact ⟨k + 1, by omega, by go_num, by rw [show 3 * j + (k + 1) = 3 * j + k + 1 from rfl, HS1.out, ← tL_set tq m _ hm3]; exact HM.out.set m (.bool false), HR.out.beside (by omega) m _, HB.out.beside (by omega) m _, HA.out.beside (by omega) m _, Below.setCell HX.out (by show w.heap.size ≤ w.heap.size + 1 + 1 + 1; omega) _⟩
                case measure => first | (simp [intOf]; omega) | simp [intOf]
              | true =>
                go_wp2_with fail
                go_roundw
                case rel => exact ⟨k + 1, by omega, by go_num, by rw [show 3 * j + (k + 1) = 3 * j + k + 1 from rfl, HS1.out, ← tL_set tq m _ hm3]; exact HM.out.set m (.bool qb), HR.out.beside (by omega) m _, HB.out.beside (by omega) m _, HA.out.beside (by omega) m _, Below.setCell HX.out (by show w.heap.size ≤ w.heap.size + 1 + 1 + 1; omega) _⟩
                case measure => first | (simp [intOf]; omega) | simp [intOf]
        · have e : k = 3 := by omega
          subst e
          have d5 : decide ((3 : Int) < 3) = false := by decide
          go_wp2_with fail
          go_roundw
          case rel => exact ⟨j + 1, by omega, by go_num, HM.out, HR.out, HB.out, HA.out, HX.out⟩
          case measure => first | (simp [intOf]; omega) | simp [intOf]
    · have e : j = 3 := by omega
      subst e
      obtain ⟨⟨r0, r1, r2⟩, hac⟩ : ∃ t, ac (3 * 3) = t := ⟨_, rfl⟩
      rw [hac] at HM
      have m0 := HM.out.cell 0 _ rfl
      have m1 := HM.out.cell 1 _ rfl
      have m2 := HM.out.cell 2 _ rfl
      have s0 : wr.cell? ⟨w.heap.size + 1 + 1, 0, none⟩ = some (.bool false) := HR.out.cell 0 _ rfl
      have f0 : wr.frozen? ⟨w.heap.size + 1 + 1, 0, none⟩ = false := HR.out.free 0
      have s1 : wr.cell? ⟨w.heap.size + 1 + 1, 1, none⟩ = some (.bool false) := HR.out.cell 1 _ rfl
      have f1 : wr.frozen? ⟨w.heap.size + 1 + 1, 1, none⟩ = false := HR.out.free 1
      have s2 : wr.cell? ⟨w.heap.size + 1 + 1, 2, none⟩ = some (.bool false) := HR.out.cell 2 _ rfl
      have f2 : wr.frozen? ⟨w.heap.size + 1 + 1, 2, none⟩ = false := HR.out.free 2
      have HAC := Lib.hid hac
      clear hac
      go_wp2_with fail
      refine bodyPost_ret (results_cell_row (P := Tryz.prog) (fn := Tryz.f30) rfl _ _ (w.heap.size + 1 + 1) 32 _ (0, 0) _ rfl (blk_set3 HR.out _ _ _) Tryz.underlying32 rfl (by kernel_rfl)) rfl ?_
      exact ⟨by rw [show (9 : Nat) = 3 * 3 from rfl, HAC.out], ext_set3 HX.out (by show w.heap.size ≤ w.heap.size + 1 + 1; omega) _ _ _⟩

end Go.Proofs.YtfnmcdjfdhdlmaaGreatDoor

/-
  The program's contracts of conditions: the judge, a function that calls itself, of what may come.
-/
namespace Go.Proofs.YtfnmcdjfdhdlmaaGreatDoor
open Go.ChangeAt Go.RowKit Go.BigFrame

theorem enters_judge3 : ∀ args w, (callFunc 53 args).run Tryz.prog w = .ok (.enter 53 args) w := enters_of Tryz.func53 (by kernel_rfl) rfl

theorem Blk.below {W W' : World} {B b : Nat} {xs : List Value} {t : TypeId} (h : Blk W b xs t) (hx : Below B W W') (hb : b < B) : Blk W' b xs t := (hx.block b hb).trans h
theorem blk_apart3 {W : World} {b g : Nat} {xs : List Value} {t : TypeId} (h : Blk W b xs t) (hne : b ≠ g) (x y z : Value) : Blk (((W.setCell ⟨g, 0, none⟩ x).setCell ⟨g, 1, none⟩ y).setCell ⟨g, 2, none⟩ z) b xs t := ((h.beside hne 0 _).beside hne 1 _).beside hne 2 _
theorem results_3_int {fn : Func} {p q : Tmp} (h : fn.results = #[.cell p 32, .tmp q]) (tmps : Array Value) (w : World) (g : Nat) (a b c u : Value)
    (hp : tmps.getD p undef = .pointer (some ⟨g, 0, none⟩)) (hq : tmps.getD q undef = u) (hb : Blk w g [a, b, c] 32) :
    (results fn tmps).run Tryz.prog w = .ok (.tuple #[.agg #[a, b, c], u]) w := by
  have hp' : tmps[p]?.getD undef = .pointer (some ⟨g, 0, none⟩) := by simpa using hp
  have hq' : tmps[q]?.getD undef = u := by simpa using hq
  have c0 : w.cell? ⟨g, 0, none⟩ = some a := Blk.cell hb 0 _ rfl
  have c1 : w.cell? ⟨g, 1, none⟩ = some b := Blk.cell hb 1 _ rfl
  have c2 : w.cell? ⟨g, 2, none⟩ = some c := Blk.cell hb 2 _ rfl
  simp [results, h, hp', hq', asAddr, go_sem, c0, c1, c2]

/-- What the judge's own function is given, and where it lies. -/
structure Jd3 (GL GN GJ : Nat) (pr u : Value) (p0 p1 p2 p3 p4 : Nat) (W : World) : Prop where
  c0 : W.cell? ⟨p0, 0, none⟩ = some u
  c1 : W.cell? ⟨p1, 0, none⟩ = some (.func (.func GL) #[] #[pr])
  c2 : W.cell? ⟨p2, 0, none⟩ = some (.func (.func 53) #[] #[.pointer (some ⟨p0, 0, none⟩), .pointer (some ⟨p1, 0, none⟩), .pointer (some ⟨p2, 0, none⟩), .pointer (some ⟨p3, 0, none⟩), .pointer (some ⟨p4, 0, none⟩)])
  c3 : W.cell? ⟨p3, 0, none⟩ = some (.func (.func GN) #[] #[])
  c4 : W.cell? ⟨p4, 0, none⟩ = some (.func (.func GJ) #[] #[])
theorem Jd3.ext {GL GN GJ : Nat} {pr u : Value} {p0 p1 p2 p3 p4 : Nat} {W W' : World} (h : Jd3 GL GN GJ pr u p0 p1 p2 p3 p4 W) (hx : Ext W W') : Jd3 GL GN GJ pr u p0 p1 p2 p3 p4 W' :=
  ⟨(hx.cell (lt_of_cell h.c0)).trans h.c0, (hx.cell (lt_of_cell h.c1)).trans h.c1, (hx.cell (lt_of_cell h.c2)).trans h.c2, (hx.cell (lt_of_cell h.c3)).trans h.c3, (hx.cell (lt_of_cell h.c4)).trans h.c4⟩

/-- What a place's node with its parts comes to. -/
def JAns3 (comb : Nd → List T3 → T3) (l : List Nd) (i : Nat) (r : List Nd) (w : World) (e : Ending) (w' : World) : Prop :=
  ∃ v : T3, stk comb (l.drop i) = v :: stk comb r ∧ e = .returned (.tuple #[tripV v, .int .i64 ((l.length - r.length : Nat) : Int)]) ∧ Ext w w'

set_option maxRecDepth 100000 in
set_option maxHeartbeats 8000000 in
theorem judgeIn3_any (GL GN GJ : Nat) (pr u : Value) (l : List Nd) (leaf : Nd → T3) (nt : T3 → T3) (jn : Nd → T3 → T3 → T3) (W0 : World) (p0 p1 p2 p3 p4 : Nat)
    (heL : ∀ args w, (callFunc GL args).run Tryz.prog w = .ok (.enter GL args) w) (heN : ∀ args w, (callFunc GN args).run Tryz.prog w = .ok (.enter GN args) w) (heJ : ∀ args w, (callFunc GJ args).run Tryz.prog w = .ok (.enter GJ args) w)
    (hL : ∀ n ∈ l, ∀ W, Ext W0 W → Calls Tryz.prog GL #[n.val, pr] W fun e w' => e = .returned (tripV (leaf n)) ∧ Ext W w')
    (hN : ∀ a, ∀ W, Calls Tryz.prog GN #[tripV a] W fun e w' => e = .returned (tripV (nt a)) ∧ Ext W w')
    (hJ : ∀ n a b, ∀ W, Calls Tryz.prog GJ #[.int .u8 (Nd.op n), tripV a, tripV b] W fun e w' => e = .returned (tripV (jn n a b)) ∧ Ext W w')
    (hu : RdNds W0 u l) (hlen : l.length ≤ 40) (hm : ∀ n ∈ l, manyI n = (kidsN n : Int) ∧ kidsN n ≤ 40 ∧ (n.op = 4 → kidsN n = 1)) (hc : Jd3 GL GN GJ pr u p0 p1 p2 p3 p4 W0) :
    ∀ (k i : Nat) (r : List Nd) (W : World), l.length - i ≤ k → i ≤ l.length → Ext W0 W → endK 1 (l.drop i) = some r →
      Calls Tryz.prog 53 #[.int .i64 i, .pointer (some ⟨p0, 0, none⟩), .pointer (some ⟨p1, 0, none⟩), .pointer (some ⟨p2, 0, none⟩), .pointer (some ⟨p3, 0, none⟩), .pointer (some ⟨p4, 0, none⟩)] W (JAns3 (combG leaf nt jn) l i r W) := by
  obtain ⟨ao, cap, rfl, -, -⟩ := hu.shape
  obtain ⟨-, h1, h2, hcs⟩ := hu.plain
  unfold maxLen at h2
  have HCS := Lib.hid hcs
  have HL := Lib.hid hL
  have HN := Lib.hid hN
  have HJ := Lib.hid hJ
  have HM := Lib.hid hm
  have HCC := Lib.hid hc
  have HEN := enters_judge3
  obtain ⟨N, hNl⟩ : ∃ N, l.length = N := ⟨_, rfl⟩
  have HNL := Lib.hid hNl
  rw [hNl] at h1 hlen hc HCC
  clear hu hcs hL hN hJ hm hc hNl
  intro k
  induction k with
  | zero =>
    intro i r W hk hi _ he
    rw [HNL.out] at hk hi
    rw [List.drop_eq_nil_of_le (by have := HNL.out; omega)] at he
    cases he
  | succ k ih =>
    intro i r W hk hi hW he
    rw [HNL.out] at hk hi
    have IH := Lib.hid ih
    clear ih
    by_cases hiN : i < N
    · have hil : i < l.length := by have := HNL.out; omega
      obtain ⟨g, off, rfl, y0, y1, y2, y3, y4, y5⟩ := HCS.out i hil
      have HW := Lib.hid hW
      have x0 := (hW.cell (lt_of_cell y0)).trans y0
      have x1 := (hW.cell (lt_of_cell y1)).trans y1
      have x2 := (hW.cell (lt_of_cell y2)).trans y2
      have x3 := (hW.cell (lt_of_cell y3)).trans y3
      have x4 := (hW.cell (lt_of_cell y4)).trans y4
      have x5 := (hW.cell (lt_of_cell y5)).trans y5
      have HCW := Lib.hid (HCC.out.ext hW)
      have HDR := Lib.hid (List.drop_eq_getElem_cons hil)
      have HMN := Lib.hid (List.getElem_mem hil)
      rw [List.drop_eq_getElem_cons hil] at he
      clear y0 y1 y2 y3 y4 y5 hW
      generalize l[i] = nd at x0 x1 x2 x3 x4 x5 HDR HMN he
      have HMK := Lib.hid (HM.out nd HMN.out)
      have HOP := Lib.hid (fun W => pOperands_any nd W)
      have HLF := Lib.hid (HL.out nd HMN.out)
      have HE := Lib.hid (show endK (kidsN nd) (l.drop (i + 1)) = some r by rw [show (1 : Nat) = 0 + 1 from rfl, endK_cons, Nat.zero_add] at he; exact he)
      have HSC := Lib.hid (show stk (combG leaf nt jn) (l.drop i) = combG leaf nt jn nd ((stk (combG leaf nt jn) (l.drop (i + 1))).take (kidsN nd)) :: (stk (combG leaf nt jn) (l.drop (i + 1))).drop (kidsN nd) by rw [HDR.out, stk_cons])
      rw [HMK.out.1] at HOP
      have HCG := Lib.hid (And.intro (combG_not leaf nt jn nd) (combG_fold leaf nt jn nd))
      have HJN := Lib.hid (HJ.out nd)
      have HFC := Lib.hid (fun vs v h => foldC_snoc leaf jn nd vs v h)
      have HF0 := Lib.hid (show foldC leaf jn nd [] = leaf nd from rfl)
      have HF1 := Lib.hid (show ∀ v, foldC leaf jn nd [v] = v from fun _ => rfl)
      obtain ⟨kn, hkn⟩ : ∃ kn, kidsN nd = kn := ⟨_, rfl⟩
      rw [hkn] at HOP HE HSC HMK
      generalize okN nd = okb at HOP
      generalize foldC leaf jn nd = fc at HCG HFC HF1 HF0
      generalize combG leaf nt jn nd = cg at HSC HCG
      obtain ⟨o, c, kd, ⟨vk, vn, vs⟩⟩ := nd
      have HBR := Lib.hid ((Blk.new W [.bool false, .bool false, .bool false] 32).ext (ext_new _ (.cells #[.int .u8 o, .int .i64 c, .int .i64 kd, .int .u8 vk, .int .i64 vn, .string ⟨vs.toArray⟩] 38)))
      have HB := Lib.hid (show Blk ((W.alloc (.cells #[.bool false, .bool false, .bool false] 32)).alloc (.cells #[.int .u8 o, .int .i64 c, .int .i64 kd, .int .u8 vk, .int .i64 vn, .string ⟨vs.toArray⟩] 38)) (W.heap.size + 1) [.int .u8 o, .int .i64 c, .int .i64 kd, .int .u8 vk, .int .i64 vn, .string ⟨vs.toArray⟩] 38 from by
        have h := Blk.new (W.alloc (.cells #[.bool false, .bool false, .bool false] 32)) [.int .u8 o, .int .i64 c, .int .i64 kd, .int .u8 vk, .int .i64 vn, .string ⟨vs.toArray⟩] 38
        simp only [World.alloc, Array.size_push] at h
        exact h)
      have HXR := Lib.hid (ext_new W (.cells #[.bool false, .bool false, .bool false] 32))
      have HX := Lib.hid (Ext.trans HXR.out (ext_new _ (.cells #[.int .u8 o, .int .i64 c, .int .i64 kd, .int .u8 vk, .int .i64 vn, .string ⟨vs.toArray⟩] 38)))
      have x0 := (HXR.out.cell (lt_of_cell x0)).trans x0
      have x1 := (HXR.out.cell (lt_of_cell x1)).trans x1
      have x2 := (HXR.out.cell (lt_of_cell x2)).trans x2
      have x3 := (HXR.out.cell (lt_of_cell x3)).trans x3
      have x4 := (HXR.out.cell (lt_of_cell x4)).trans x4
      have x5 := (HXR.out.cell (lt_of_cell x5)).trans x5
      have z0 := (HCW.out.ext HXR.out).c0
      unfold Nd.val at HOP HLF
      simp only at x0 x1 x2 x3 x4 x5 HOP HLF HJN HMK HCG
      have HLN := Lib.hid hlen
      clear he hkn hil
      go_enter Tryz.func53, Tryz.ntmps53
      go_upto_region 2 with fail
      generalize (W.alloc (.cells #[.bool false, .bool false, .bool false] 32)).alloc (.cells #[.int .u8 o, .int .i64 c, .int .i64 kd, .int .u8 vk, .int .i64 vn, .string ⟨vs.toArray⟩] 38) = WA at HB HBR HX ⊢
      clear x0 x1 x2 x3 x4 x5 z0 HXR
      have x0 : WA.cell? ⟨W.heap.size + 1, 0, none⟩ = some (.int .u8 o) := HB.out.cell 0 _ rfl
      have x1 : WA.cell? ⟨W.heap.size + 1, 1, none⟩ = some (.int .i64 c) := HB.out.cell 1 _ rfl
      have x2 : WA.cell? ⟨W.heap.size + 1, 2, none⟩ = some (.int .i64 kd) := HB.out.cell 2 _ rfl
      have x3 : WA.cell? ⟨W.heap.size + 1, 3, none⟩ = some (.int .u8 vk) := HB.out.cell 3 _ rfl
      have x4 : WA.cell? ⟨W.heap.size + 1, 4, none⟩ = some (.int .i64 vn) := HB.out.cell 4 _ rfl
      have x5 : WA.cell? ⟨W.heap.size + 1, 5, none⟩ = some (.string ⟨vs.toArray⟩) := HB.out.cell 5 _ rfl
      go_wp2_with fail
      refine (HOP.out _).mono ?_
      rintro e w1 ⟨rfl, hx⟩
      have HB1 := Lib.hid (HB.out.ext hx)
      have HR1 := Lib.hid (HBR.out.ext hx)
      have HX1 := Lib.hid (Ext.trans HX.out hx)
      have HC1 := Lib.hid (HCW.out.ext HX1.out)
      clear hx x0 x1 x2 x3 x4 x5
      have e0 : w1.cell? ⟨W.heap.size + 1, 0, none⟩ = some (.int .u8 o) := HB1.out.cell 0 _ rfl
      have e1 : w1.cell? ⟨W.heap.size + 1, 1, none⟩ = some (.int .i64 c) := HB1.out.cell 1 _ rfl
      have e2 : w1.cell? ⟨W.heap.size + 1, 2, none⟩ = some (.int .i64 kd) := HB1.out.cell 2 _ rfl
      have e3 : w1.cell? ⟨W.heap.size + 1, 3, none⟩ = some (.int .u8 vk) := HB1.out.cell 3 _ rfl
      have e4 : w1.cell? ⟨W.heap.size + 1, 4, none⟩ = some (.int .i64 vn) := HB1.out.cell 4 _ rfl
      have e5 : w1.cell? ⟨W.heap.size + 1, 5, none⟩ = some (.string ⟨vs.toArray⟩) := HB1.out.cell 5 _ rfl
      have z1 := HC1.out.c1
      have z2 := HC1.out.c2
      cases kn with
      | zero =>
        have hr : l.drop (i + 1) = r := by have := HE.out; rw [endK_zero] at this; simpa using this
        have HR := Lib.hid hr
        have HLR := Lib.hid (show l.length - r.length = i + 1 by rw [← hr, List.length_drop]; have := HNL.out; omega)
        clear hr
        generalize leaf ⟨o, c, kd, ⟨vk, vn, vs⟩⟩ = lf at HLF HF0
        obtain ⟨l0, l1, l2⟩ := lf
        unfold tripV at HLF
        simp only at HLF
        go_wp2_with fail
        refine (HLF.out _ (Ext.trans HW.out HX1.out)).mono ?_
        rintro e w2 ⟨rfl, hx⟩
        have HX2 := Lib.hid (Ext.trans HX1.out hx)
        have HR2 := Lib.hid (HR1.out.ext hx)
        clear hx
        have r0 : w2.cell? ⟨W.heap.size, 0, none⟩ = some (.bool false) := HR2.out.cell 0 _ rfl
        have r1 : w2.cell? ⟨W.heap.size, 1, none⟩ = some (.bool false) := HR2.out.cell 1 _ rfl
        have r2 : w2.cell? ⟨W.heap.size, 2, none⟩ = some (.bool false) := HR2.out.cell 2 _ rfl
        have f0 : w2.frozen? ⟨W.heap.size, 0, none⟩ = false := HR2.out.free 0
        have f1 : w2.frozen? ⟨W.heap.size, 1, none⟩ = false := HR2.out.free 1
        have f2 : w2.frozen? ⟨W.heap.size, 2, none⟩ = false := HR2.out.free 2
        go_wp2_with fail
        refine bodyPost_ret (results_3_int rfl _ _ _ _ _ _ _ rfl rfl (blk_set3 HR2.out _ _ _)) rfl ?_
        refine ⟨(l0, l1, l2), ?_, ?_, ext_set3 HX2.out (Nat.le_refl _) _ _ _⟩
        · rw [HSC.out, HR.out, HCG.out.2 (fun h => by have := HMK.out.2.2 h; omega)]
          simp only [List.take_zero, List.drop_zero]
          rw [HF0.out]
        · rw [HLR.out]; rfl
      | succ kn =>
        generalize hMM : ((kn + 1 : Nat) : Int) = M
        have q0 : (M == (0 : Int)) = false := beq_eq_false_iff_ne.2 (by omega)
        have hM1 : M ≤ kn + 1 := by omega
        have hM2 : (kn : Int) + 1 ≤ M := by omega
        have hM3 : kn ≤ 40 := by have := HMK.out.2.1; omega
        obtain ⟨y, hy1, hy2⟩ := endK_step HE.out
        have HY2 := Lib.hid hy2
        have HYP := Lib.hid (endK_place (by have := HNL.out; omega) hy1)
        have HI := Lib.hid (show Calls Tryz.prog 53 #[.int .i64 ((i : Int) + 1), .pointer (some ⟨p0, 0, none⟩), .pointer (some ⟨p1, 0, none⟩), .pointer (some ⟨p2, 0, none⟩), .pointer (some ⟨p3, 0, none⟩), .pointer (some ⟨p4, 0, none⟩)] w1 (JAns3 (combG leaf nt jn) l (i + 1) y w1) from IH.out (i + 1) y w1 (by have := HNL.out; omega) (by have := HNL.out; omega) (Ext.trans HW.out HX1.out) hy1)
        clear hMM hy1 hy2
        go_wp2_with fail
        refine HI.out.mono ?_
        rintro e w2 ⟨v, hst, rfl, hx⟩
        have HST := Lib.hid hst
        obtain ⟨v0, v1, v2⟩ := v
        unfold tripV
        simp only
        have HX2 := Lib.hid (Ext.trans (Ext.trans HX1.out hx) (ext_new w2 (.cells #[.bool v0, .bool v1, .bool v2] 32)))
        have HB2 := Lib.hid ((HB1.out.ext hx).ext (ext_new w2 (.cells #[.bool v0, .bool v1, .bool v2] 32)))
        have HR2 := Lib.hid ((HR1.out.ext hx).ext (ext_new w2 (.cells #[.bool v0, .bool v1, .bool v2] 32)))
        have HT2 := Lib.hid (Blk.new w2 [.bool v0, .bool v1, .bool v2] 32)
        have HC2 := Lib.hid ((HC1.out.ext hx).ext (ext_new w2 (.cells #[.bool v0, .bool v1, .bool v2] 32)))
        have HSZ := Lib.hid (show W.heap.size + 1 < w2.heap.size from lt_of_cell ((HB1.out.ext hx).cell 0 _ rfl))
        have HSZ1 := Lib.hid (show (w2.alloc (.cells #[.bool v0, .bool v1, .bool v2] 32)).heap.size = w2.heap.size + 1 by simp only [World.alloc, Array.size_push])
        clear hst hx e0 e1 e2 e3 e4 e5 z1 z2
        go_upto_region 6 with fail
        generalize w2.alloc (.cells #[.bool v0, .bool v1, .bool v2] 32) = w3 at HX2 HB2 HR2 HT2 HC2 HSZ1 ⊢
        have e0 : w3.cell? ⟨W.heap.size + 1, 0, none⟩ = some (.int .u8 o) := HB2.out.cell 0 _ rfl
        generalize hkt : w2.heap.size = kt at HT2 HSZ HSZ1 ⊢
        clear hkt
        by_cases ho : o = 4
        · have hk0 : kn = 0 := by have := HMK.out.2.2 ho; omega
          subst hk0
          have HR := Lib.hid (show y = r by have := HY2.out; rw [endK_zero] at this; simpa using this)
          have HGO := Lib.hid (HCG.out.1 ho (v0, v1, v2))
          subst ho
          have z3 := HC2.out.c3
          have HNV := Lib.hid (HN.out (v0, v1, v2))
          generalize nt (v0, v1, v2) = nv at HNV HGO
          obtain ⟨n0, n1, n2⟩ := nv
          unfold tripV at HNV
          simp only at HNV
          have t0 : w3.cell? ⟨kt, 0, none⟩ = some (.bool v0) := HT2.out.cell 0 _ rfl
          have t1 : w3.cell? ⟨kt, 1, none⟩ = some (.bool v1) := HT2.out.cell 1 _ rfl
          have t2 : w3.cell? ⟨kt, 2, none⟩ = some (.bool v2) := HT2.out.cell 2 _ rfl
          go_wp2_with fail
          refine (HNV.out _).mono ?_
          rintro e w4 ⟨rfl, hx⟩
          have HX3 := Lib.hid (Ext.trans HX2.out hx)
          have HR3 := Lib.hid (HR2.out.ext hx)
          clear hx t0 t1 t2 e0
          have r0 : w4.cell? ⟨W.heap.size, 0, none⟩ = some (.bool false) := HR3.out.cell 0 _ rfl
          have r1 : w4.cell? ⟨W.heap.size, 1, none⟩ = some (.bool false) := HR3.out.cell 1 _ rfl
          have r2 : w4.cell? ⟨W.heap.size, 2, none⟩ = some (.bool false) := HR3.out.cell 2 _ rfl
          have f0 : w4.frozen? ⟨W.heap.size, 0, none⟩ = false := HR3.out.free 0
          have f1 : w4.frozen? ⟨W.heap.size, 1, none⟩ = false := HR3.out.free 1
          have f2 : w4.frozen? ⟨W.heap.size, 2, none⟩ = false := HR3.out.free 2
          go_wp2_with fail
          refine bodyPost_ret (results_3_int rfl _ _ _ _ _ _ _ rfl rfl (blk_set3 HR3.out _ _ _)) rfl ?_
          refine ⟨(n0, n1, n2), ?_, ?_, ext_set3 HX3.out (Nat.le_refl _) _ _ _⟩
          · rw [HSC.out, HST.out, HR.out]
            show cg [(v0, v1, v2)] :: stk (combG leaf nt jn) r = _
            rw [HGO.out]
          · rw [HR.out]; rfl
        · have q4 : (o == (4 : Int)) = false := beq_eq_false_iff_ne.2 ho
          have HO := Lib.hid ho
          clear ho
          go_wp2_with fail
          go_loopw [13, 14, 47] (fun nxt _ it wr => ∃ (m : Nat) (y' : List Nd) (ws : List T3), m ≤ kn ∧ it = .int .i64 m ∧ endK (kn - m) y' = some r ∧ ws.length = m + 1 ∧ stk (combG leaf nt jn) (l.drop (i + 1)) = ws ++ stk (combG leaf nt jn) y' ∧ Blk wr kt (tL (fc ws)) 32 ∧ nxt = .int .i64 ((l.length - y'.length : Nat) : Int) ∧ l.drop (l.length - y'.length) = y' ∧ i < l.length - y'.length ∧ Below kt w3 wr) (fun _ _ it _ => kn - (intOf it).toNat)
          case atStart => exact ⟨0, y, [(v0, v1, v2)], Nat.zero_le _, rfl, HY2.out, rfl, HST.out, by rw [HF1.out]; exact HT2.out, rfl, HYP.out.1, by have := HYP.out.2; have := HNL.out; omega, Below.refl _ _⟩
          case round =>
            obtain ⟨m, y', ws, hm, rfl, hy, hws, hst, hbt, rfl, hd, hiq, hx⟩ := hrel
            have HYY := Lib.hid hy
            have HWS := Lib.hid hws
            have HST2 := Lib.hid hst
            have HT := Lib.hid hbt
            have HD := Lib.hid hd
            have HXR := Lib.hid hx
            have HXW := Lib.hid (show Ext W wr from Below.trans HX2.out (hx.mono (by have := HSZ.out; omega)))
            have HBW := Lib.hid (HB2.out.below hx (by have := HSZ.out; omega))
            have HRW := Lib.hid (HR2.out.below hx (by have := HSZ.out; omega))
            have HCR := Lib.hid (HCC.out.ext (Ext.trans HW.out HXW.out))
            obtain ⟨q, hq⟩ : ∃ q, l.length - y'.length = q := ⟨_, rfl⟩
            have hqN : q ≤ N := by have := HNL.out; omega
            rw [hq] at HD hiq ⊢
            have HQQ := Lib.hid hq
            have HIQ := Lib.hid hiq
            clear hy hws hst hbt hd hx hq hiq e0
            obtain ⟨⟨w0, w1', w2'⟩, hfw⟩ : ∃ t, fc ws = t := ⟨_, rfl⟩
            have HFW := Lib.hid hfw
            rw [hfw] at HT
            clear hfw
            by_cases hmk : m < kn
            · have dm : decide ((m : Int) < M - 1) = true := decide_eq_true (by omega)
              obtain ⟨y2, hy1, hy2⟩ := endK_step (show endK ((kn - m - 1) + 1) y' = some r by rw [show kn - m - 1 + 1 = kn - m by omega]; exact HYY.out)
              rw [← HD.out] at hy1
              have HY3 := Lib.hid hy2
              have HYP2 := Lib.hid (endK_place (by have := HNL.out; omega) hy1)
              have HXO := Lib.hid (ext_new wr (.cells #[.bool false, .bool false, .bool false] 32))
              have HBO := Lib.hid (Blk.new wr [.bool false, .bool false, .bool false] 32)
              have HKO := Lib.hid (show kt < wr.heap.size from lt_of_cell (HT.out.cell 0 _ rfl))
              have HI2 := Lib.hid (IH.out q y2 (wr.alloc (.cells #[.bool false, .bool false, .bool false] 32)) (by have := HNL.out; have := HIQ.out; omega) (by have := HNL.out; omega) (Ext.trans HW.out (Ext.trans HXW.out HXO.out)) hy1)
              clear hy1 hy2
              go_upto_region 11 with fail
              have HWR := Lib.hid (show ∀ W', Ext (wr.alloc (.cells #[.bool false, .bool false, .bool false] 32)) W' → Ext wr W' from fun W' h => Ext.trans HXO.out h)
              generalize wr.alloc (.cells #[.bool false, .bool false, .bool false] 32) = wo at HBO HI2 HWR HXO ⊢
              have z2 := (HCR.out.ext HXO.out).c2
              generalize hko : wr.heap.size = ko at HBO HKO ⊢
              clear hko
              go_wp2_with fail
              refine HI2.out.mono ?_
              rintro e w5 ⟨u, hst2, rfl, hx⟩
              have HS3 := Lib.hid hst2
              obtain ⟨u0, u1, u2⟩ := u
              unfold tripV
              simp only
              have HX5 := Lib.hid (HWR.out _ hx)
              have HO5 := Lib.hid (HBO.out.ext hx)
              have HT5 := Lib.hid (HT.out.ext HX5.out)
              have HB5 := Lib.hid (HBW.out.ext HX5.out)
              have HR5 := Lib.hid (HRW.out.ext HX5.out)
              have HC5 := Lib.hid (HCR.out.ext HX5.out)
              clear hst2 hx z2
              have s0 : w5.cell? ⟨ko, 0, none⟩ = some (.bool false) := HO5.out.cell 0 _ rfl
              have s1 : w5.cell? ⟨ko, 1, none⟩ = some (.bool false) := HO5.out.cell 1 _ rfl
              have s2 : w5.cell? ⟨ko, 2, none⟩ = some (.bool false) := HO5.out.cell 2 _ rfl
              have f0 : w5.frozen? ⟨ko, 0, none⟩ = false := HO5.out.free 0
              have f1 : w5.frozen? ⟨ko, 1, none⟩ = false := HO5.out.free 1
              have f2 : w5.frozen? ⟨ko, 2, none⟩ = false := HO5.out.free 2
              go_upto_region 12 with fail
              generalize hW6 : (((w5.setCell ⟨ko, 0, none⟩ (.bool u0)).setCell ⟨ko, 1, none⟩ (.bool u1)).setCell ⟨ko, 2, none⟩ (.bool u2)) = w6
              have HKR := Lib.hid (show kt < ko from HKO.out)
              have HO6 := Lib.hid (show Blk w6 ko (tL (u0, u1, u2)) 32 by rw [← hW6]; exact blk_set3 HO5.out _ _ _)
              have HT6 := Lib.hid (show Blk w6 kt (tL (w0, w1', w2')) 32 by rw [← hW6]; exact blk_apart3 HT5.out (by have := HKO.out; omega) _ _ _)
              have HB6 := Lib.hid (show Blk w6 (W.heap.size + 1) _ _ by rw [← hW6]; exact blk_apart3 HB5.out (by have := HKO.out; have := HSZ.out; omega) _ _ _)
              have HX6 := Lib.hid (show Below kt w3 w6 by rw [← hW6]; exact ext_set3 (Below.trans HXR.out (Below.mono HX5.out (by have := HT.out.lt; omega))) (by have := HKO.out; omega) _ _ _)
              have HC6 := Lib.hid (show Jd3 GL GN GJ pr (.slice (some ⟨g, off, none⟩) N cap) p0 p1 p2 p3 p4 w6 by exact HCC.out.ext (Ext.trans HW.out (Below.trans HX2.out (HX6.out.mono (by have := HSZ.out; omega)))))
              clear hW6 s0 s1 s2 f0 f1 f2
              have s0 : w6.cell? ⟨ko, 0, none⟩ = some (.bool u0) := HO6.out.cell 0 _ rfl
              have s1 : w6.cell? ⟨ko, 1, none⟩ = some (.bool u1) := HO6.out.cell 1 _ rfl
              have s2 : w6.cell? ⟨ko, 2, none⟩ = some (.bool u2) := HO6.out.cell 2 _ rfl
              have t0 : w6.cell? ⟨kt, 0, none⟩ = some (.bool w0) := HT6.out.cell 0 _ rfl
              have t1 : w6.cell? ⟨kt, 1, none⟩ = some (.bool w1') := HT6.out.cell 1 _ rfl
              have t2 : w6.cell? ⟨kt, 2, none⟩ = some (.bool w2') := HT6.out.cell 2 _ rfl
              have e0 : w6.cell? ⟨W.heap.size + 1, 0, none⟩ = some (.int .u8 o) := HB6.out.cell 0 _ rfl
              have z4 := HC6.out.c4
              have HJV := Lib.hid (HJN.out (w0, w1', w2') (u0, u1, u2))
              have HFS := Lib.hid (HFC.out ws (u0, u1, u2) (fun h => by have := HWS.out; rw [h] at this; cases this))
              rw [HFW.out] at HFS
              generalize jn ⟨o, c, kd, ⟨vk, vn, vs⟩⟩ (w0, w1', w2') (u0, u1, u2) = jv at HJV HFS
              obtain ⟨j0, j1, j2⟩ := jv
              unfold tripV at HJV
              simp only at HJV
              go_wp2_with fail
              refine (HJV.out _).mono ?_
              rintro e w7 ⟨rfl, hx⟩
              have HT7 := Lib.hid (HT6.out.ext hx)
              have HX7 := Lib.hid (show Below kt w3 w7 from Below.trans HX6.out (Below.mono hx (by have := HT6.out.lt; omega)))
              clear hx s0 s1 s2 t0 t1 t2 e0 z4
              have s0 : w7.cell? ⟨kt, 0, none⟩ = some (.bool w0) := HT7.out.cell 0 _ rfl
              have s1 : w7.cell? ⟨kt, 1, none⟩ = some (.bool w1') := HT7.out.cell 1 _ rfl
              have s2 : w7.cell? ⟨kt, 2, none⟩ = some (.bool w2') := HT7.out.cell 2 _ rfl
              have f0 : w7.frozen? ⟨kt, 0, none⟩ = false := HT7.out.free 0
              have f1 : w7.frozen? ⟨kt, 1, none⟩ = false := HT7.out.free 1
              have f2 : w7.frozen? ⟨kt, 2, none⟩ = false := HT7.out.free 2
              go_wp2_with fail
              go_roundw
              case rel => exact ⟨m + 1, y2, ws ++ [(u0, u1, u2)], by omega, by go_num, by rw [show kn - (m + 1) = kn - m - 1 by omega]; exact HY3.out, by rw [List.length_append, HWS.out]; rfl, by rw [HST2.out, ← HD.out, HS3.out, List.append_assoc]; rfl, by rw [HFS.out]; exact blk_set3 HT7.out _ _ _, rfl, HYP2.out.1, by have := HYP2.out.2; have := HNL.out; have := HIQ.out; omega, ext_set3 HX7.out (Nat.le_refl _) _ _ _⟩
              case measure => simp [intOf]; omega
            · have dm : decide ((m : Int) < M - 1) = false := decide_eq_false (by omega)
              have hmk' : m = kn := by omega
              have HR := Lib.hid (show y' = r by have := HYY.out; rw [show kn - m = 0 by omega, endK_zero] at this; simpa using this)
              have HK := Lib.hid hmk'
              clear hmk hmk'
              have t0 : wr.cell? ⟨kt, 0, none⟩ = some (.bool w0) := HT.out.cell 0 _ rfl
              have t1 : wr.cell? ⟨kt, 1, none⟩ = some (.bool w1') := HT.out.cell 1 _ rfl
              have t2 : wr.cell? ⟨kt, 2, none⟩ = some (.bool w2') := HT.out.cell 2 _ rfl
              have r0 : wr.cell? ⟨W.heap.size, 0, none⟩ = some (.bool false) := HRW.out.cell 0 _ rfl
              have r1 : wr.cell? ⟨W.heap.size, 1, none⟩ = some (.bool false) := HRW.out.cell 1 _ rfl
              have r2 : wr.cell? ⟨W.heap.size, 2, none⟩ = some (.bool false) := HRW.out.cell 2 _ rfl
              have f0 : wr.frozen? ⟨W.heap.size, 0, none⟩ = false := HRW.out.free 0
              have f1 : wr.frozen? ⟨W.heap.size, 1, none⟩ = false := HRW.out.free 1
              have f2 : wr.frozen? ⟨W.heap.size, 2, none⟩ = false := HRW.out.free 2
              go_wp2_with fail
              refine bodyPost_ret (results_3_int rfl _ _ _ _ _ _ _ rfl rfl (blk_set3 HRW.out _ _ _)) rfl ?_
              refine ⟨(w0, w1', w2'), ?_, ?_, ext_set3 HXW.out (Nat.le_refl _) _ _ _⟩
              · have hl : ws.length = kn + 1 := by rw [HWS.out, HK.out]
                rw [HSC.out, HST2.out, HR.out, List.take_left' hl, List.drop_left' hl, HCG.out.2 HO.out, HFW.out]
              · rw [← HR.out, HQQ.out]; rfl
    · rw [List.drop_eq_nil_of_le (by have := HNL.out; omega)] at he
      cases he

end Go.Proofs.YtfnmcdjfdhdlmaaGreatDoor

/-
  Conditions judged from the last node to the first, with a stack. No program.
-/
namespace Go.Proofs.YtfnmcdjfdhdlmaaGreatDoor
open Go.RowKit

theorem endK_suffix : ∀ (l : List Nd) (k : Nat), endK k l = some [] → ∀ i, (h : i < l.length) → ∃ k', endK (k' + kidsN l[i]) (l.drop (i + 1)) = some []
  | [], _, _, i, h => by simp at h
  | n :: t, 0, hk, _, _ => by rw [endK_zero] at hk; cases hk
  | n :: t, k + 1, hk, 0, _ => ⟨k, by rw [endK_cons] at hk; exact hk⟩
  | n :: t, k + 1, hk, i + 1, h => by
    rw [endK_cons] at hk
    exact endK_suffix t _ hk i (by simpa using h)
theorem stk_enough {α : Type} (comb : Nd → List α → α) {l : List Nd} {k : Nat} (h : endK k l = some []) (i : Nat) (hi : i < l.length) : kidsN l[i] ≤ (stk comb (l.drop (i + 1))).length := by
  obtain ⟨k', hk'⟩ := endK_suffix l k h i hi
  obtain ⟨vs, hv, e⟩ := stk_end comb _ _ _ hk'
  rw [e, List.length_append]
  omega
theorem stk_len {α : Type} (comb : Nd → List α → α) (l : List Nd) : (stk comb l).length ≤ l.length := by
  induction l with
  | nil => exact Nat.le_refl _
  | cons n t ih => rw [stk_cons, List.length_cons, List.length_drop, List.length_cons]; omega

def valD (r : List V) (n : Nd) : V := (r[n.col.toNat]?).getD V.zero
def leafD (lk : List UInt8 → List UInt8 → Bool) (n : Nd) (v : V) : Int :=
  if n.op = 5 then equalT v n.v else if n.op = 6 then lessT v n.v else if n.op = 8 then (if v.k = 0 then 2 else 0) else if v.k = 0 then 1 else if lk n.v.s v.s = true then 2 else 0
def initT (lk : List UInt8 → List UInt8 → Bool) (r : List V) (n : Nd) : Int := if colN n = true then leafD lk n (valD r n) else if n.op = 3 then 0 else 2
def stepT (n : Nd) (a x : Int) : Int := if n.op = 2 then andT a x else if n.op = 3 then orT a x else notT x
theorem tri_step {n : Nd} {a x : Int} (ha : tri a) (hx : tri x) : tri (stepT n a x) := by
  unfold stepT
  split
  · exact tri_and ha hx
  · split
    · exact tri_or ha hx
    · exact tri_not hx
theorem tri_leafD (lk : List UInt8 → List UInt8 → Bool) (n : Nd) (v : V) : tri (leafD lk n v) := by
  unfold leafD
  split
  · exact tri_known _ _ _
  · split
    · exact tri_known _ _ _
    · split
      · split
        · exact .inr (.inr rfl)
        · exact .inl rfl
      · split
        · exact .inr (.inl rfl)
        · split
          · exact .inr (.inr rfl)
          · exact .inl rfl
theorem tri_init (lk : List UInt8 → List UInt8 → Bool) (r : List V) (n : Nd) : tri (initT lk r n) := by
  unfold initT
  split
  · exact tri_leafD _ _ _
  · split
    · exact .inl rfl
    · exact .inr (.inr rfl)
theorem tri_fold {n : Nd} : ∀ (xs : List Int) (a : Int), tri a → (∀ x ∈ xs, tri x) → tri (xs.foldl (stepT n) a)
  | [], _, ha, _ => ha
  | x :: t, _, ha, h => tri_fold t _ (tri_step ha (h x (List.mem_cons_self ..))) fun y hy => h y (List.mem_cons_of_mem _ hy)
theorem comb_step (lk : List UInt8 → List UInt8 → Bool) {ok : List UInt8 → Bool} {K : List Int} (r : List V) {n : Nd} (h : oneN ok K n) (xs : List Int) (hx : xs.length = kidsN n) : combT lk r n xs = xs.foldl (stepT n) (initT lk r n) := by
  obtain ⟨hk1, hk2, hk3, hk4⟩ := oneN_kids h
  unfold combT
  by_cases h2 : n.op = 2
  · have hc : ¬ colN n = true := by unfold colN; simp; omega
    rw [if_pos h2, show stepT n = andT from funext fun _ => funext fun _ => if_pos h2]
    unfold initT
    rw [if_neg hc, if_neg (by omega)]
  · rw [if_neg h2]
    by_cases h3 : n.op = 3
    · have hc : ¬ colN n = true := by unfold colN; simp; omega
      rw [if_pos h3, show stepT n = orT from funext fun _ => funext fun _ => (if_neg h2).trans (if_pos h3)]
      unfold initT
      rw [if_neg hc, if_pos h3]
    · rw [if_neg h3]
      by_cases h4 : n.op = 4
      · have hc : ¬ colN n = true := by unfold colN; simp; omega
        rw [if_pos h4, show stepT n = fun _ x => notT x from funext fun _ => funext fun _ => (if_neg h2).trans (if_neg h3)]
        unfold initT
        rw [if_neg hc, if_neg h3]
      · rw [if_neg h4]
        have hxs : xs = [] := List.length_eq_zero_iff.1 (by have := hk4 h2 h3 h4; omega)
        subst hxs
        show _ = initT lk r n
        unfold initT
        by_cases h1 : n.op = 1
        · have hc : ¬ colN n = true := by unfold colN; simp; omega
          rw [if_pos h1, if_neg hc, if_neg h3]
        · have hc : colN n = true := decide_eq_true (by have := h.1; omega)
          rw [if_neg h1, if_pos hc]
          rfl
theorem stk_tri (lk : List UInt8 → List UInt8 → Bool) {ok : List UInt8 → Bool} {K : List Int} {l : List Nd} (r : List V) (h : rightA ok K l) : ∀ i, ∀ x ∈ stk (combT lk r) (l.drop i), tri x := by
  have key : ∀ (t : List Nd), (∀ n ∈ t, oneN ok K n) → (∀ i, (hi : i < t.length) → kidsN t[i] ≤ (stk (combT lk r) (t.drop (i + 1))).length) → ∀ x ∈ stk (combT lk r) t, tri x := by
    intro t
    induction t with
    | nil => intro _ _ x hx; cases hx
    | cons n t ih =>
      intro h1 h2 x hx
      have iht := ih (fun m hm => h1 m (List.mem_cons_of_mem _ hm)) (fun i hi => h2 (i + 1) (by simpa using hi))
      rw [stk_cons] at hx
      rcases List.mem_cons.1 hx with rfl | hx
      · rw [comb_step lk r (h1 n (List.mem_cons_self ..)) _ (by rw [List.length_take]; have := h2 0 (by simp); simp at this; omega)]
        exact tri_fold _ _ (tri_init lk r n) fun y hy => iht y (List.mem_of_mem_take hy)
      · exact iht x (List.mem_of_mem_drop hx)
  intro i
  refine key (l.drop i) (fun n hn => h.2.1 n (List.mem_of_mem_drop hn)) fun j hj => ?_
  have hj' : i + j < l.length := by rw [List.length_drop] at hj; omega
  have := stk_enough (combT lk r) h.2.2 (i + j) hj'
  rw [List.getElem_drop, List.drop_drop]
  exact this

end Go.Proofs.YtfnmcdjfdhdlmaaGreatDoor
