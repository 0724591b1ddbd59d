/-
  Texts of this proof, merged.
-/
import Derived.Test.YtaoegcakefodaaaGreatZ1
import Derived.Test.YtaoegcakefodaaaGreatY1
import Derived.Test.YtaoegcakefodaaaGreatZ2
import Derived.Test.YtaoegcakefodaaaGreatZ3
import Derived.Test.YtaoegcakefodaaaGreatZ4
import Derived.Test.YtaoegcakefodaaaGreatZ5
import Derived.Test.YtaoegcakefodaaaGreatZ6
import Derived.Test.YtaoegcakefodaaaGreatZ7
import Derived.Test.YtaoegcakefodaaaGreatY2
import Derived.Test.YtaoegcakefodaaaGreatZ8
import Derived.Test.YtaoegcakefodaaaGreatZ9
import Derived.Test.YtaoegcakefodaaaGreatZ10
import Derived.Test.YtaoegcakefodaaaGreatZ11
import Derived.Test.YtaoegcakefodaaaGreatZ12
import Derived.Test.YtaoegcakefodaaaGreatZ13
import Derived.Test.YtaoegcakefodaaaGreatZ14
import Derived.Test.YtaoegcakefodaaaGreatZ15
import Derived.Test.YtaoegcakefodaaaGreatZ16
import Derived.Test.YtaoegcakefodaaaGreatZ17
import Derived.Test.YtaoegcakefodaaaGreatZ18
import Derived.Test.YtaoegcakefodaaaGreatZ19
import Derived.Test.YtaoegcakefodaaaGreatZ20
import Derived.Test.YtaoegcakefodaaaGreatZ21
import Derived.Test.YtaoegcakefodaaaGreatZ22
import Derived.Test.YtaoegcakefodaaaGreatZ23
import Derived.Test.YtaoegcakefodaaaGreatZ24
namespace Go.Proofs.YtaoegcakefodaaaGreat
open Go.RowKit Go.BigFrame
set_option maxRecDepth 100000 in
theorem pSortNoStore18_any (q : Addr) (u x : Value) (rows : List (List V)) (fan : Int) (w : World) (hu : RdRows w u rows) :
    Calls Tryz.prog 18 #[.pointer none, .pointer (some q), u, x, .int .i64 fan] w fun e w' => (∃ o, e = .returned (.tuple #[o, .int .i64 2]) ∧ RdRows w' o []) ∧ Ext w w' := by
  obtain ⟨ua, uc, rfl, -, -⟩ := hu.shape
  clear hu
  go_enter_defers Tryz.func18, Tryz.ntmps18
  go_wp2_with fail
  exact ⟨_, results_tmp2 rfl _ _ _, ⟨_, rfl, (RdRV.nil w).rd⟩, Ext.keeps.refl _⟩
set_option maxRecDepth 100000 in
theorem pSortNoPurse18_any (p : Addr) (u x : Value) (rows : List (List V)) (fan : Int) (w : World) (hu : RdRows w u rows) :
    Calls Tryz.prog 18 #[.pointer (some p), .pointer none, u, x, .int .i64 fan] w fun e w' => (∃ o, e = .returned (.tuple #[o, .int .i64 2]) ∧ RdRows w' o []) ∧ Ext w w' := by
  obtain ⟨ua, uc, rfl, -, -⟩ := hu.shape
  clear hu
  go_enter_defers Tryz.func18, Tryz.ntmps18
  go_wp2_with fail
  exact ⟨_, results_tmp2 rfl _ _ _, ⟨_, rfl, (RdRV.nil w).rd⟩, Ext.keeps.refl _⟩
end Go.Proofs.YtaoegcakefodaaaGreat

namespace Go.Proofs.YtaoegcakefodaaaGreat
open Go.RowKit Go.BigFrame
theorem lit_rows (w : World) (hs : List Value) (rs : List (List V)) (h : HdRows w hs rs) (hl : hs.length ≤ maxLen) : RdRV (w.alloc (.cells hs.toArray 58)) (.slice (some ⟨w.heap.size, 0, none⟩) hs.length hs.length) rs := by
  have h1 := World.ownsRow_lit (base := w.heap.size) (e := 58) (size := 1) w hs.toArray hs.length (Nat.le_refl _) hl (by simp)
  exact ⟨hs, by simpa using RdV.of_owns h1, h.mono (ext_new w _)⟩
end Go.Proofs.YtaoegcakefodaaaGreat

namespace Go.Proofs.YtaoegcakefodaaaGreat
open Go.RowKit Go.BigFrame
set_option maxRecDepth 100000 in
set_option maxHeartbeats 2000000 in
theorem sorterNil_walk (u : Value) (r : List V) (w : World) (hu : RdVals w u r) (_hf : ∀ v ∈ r, v.fits ∧ v.s.length ≤ maxLen) :
    Calls Tryz.prog 8 #[u] w fun e w' => e = .returned (.bool true) ∧ Below w.heap.size w w' := by
  have HU := Lib.hid hu
  obtain ⟨ua, uc, rfl, h1, h2⟩ := hu.shape
  obtain ⟨M, hM⟩ : ∃ M, r.length = M := ⟨_, rfl⟩
  rw [hM] at h1 HU ⊢
  unfold maxLen at h2
  clear hu hM
  go_enter Tryz.func8, Tryz.ntmps8
  go_wp2_with fail
  refine (shown18_any _).mono ?_
  rintro e w0 ⟨rfl, x0⟩
  have X0 := Lib.hid x0
  clear x0
  go_wp2_with fail
  refine (pNew_any 3 (by decide)).mono ?_
  rintro e w1 hN
  unfold PNewed at hN
  rcases hN with ⟨_, _, p, O1, rfl, -, -, hx1⟩ | ⟨h, _⟩
  rotate_left
  · exact absurd (by decide) h
  have X1 := Lib.hid (Ext.trans X0.out hx1)
  clear hx1
  go_wp2_with fail
  refine (purNew_any 100 w1 (by decide)).mono ?_
  rintro e w2 hN
  unfold PurNewed at hN
  rcases hN with ⟨_, _, a, rfl, -, -, hx2⟩ | ⟨h, _⟩
  rotate_left
  · exact absurd (by decide) h
  have X2 := Lib.hid (Ext.trans X1.out hx2)
  clear hx2 X0 X1
  have HL := Lib.hid (fun (W : World) (hW : Ext w W) => show RdRows (W.alloc (.cells #[.slice ua M uc] 58)) (.slice (some ⟨W.heap.size, 0, none⟩) 1 1) [r] from (lit_rows W [.slice ua M uc] [r] (HdRows.one (HU.out.mono hW)) (by simp [maxLen])).rd)
  by_cases h40 : 40 < M
  · have d2 : decide (40 < M) = true := decide_eq_true h40
    have d2' : decide ((40 : Int) < (M : Int)) = true := decide_eq_true (by omega)
    go_wp2_with fail
    go_ret
    exact ⟨rfl, X2.out⟩
  · have d2 : decide (40 < M) = false := decide_eq_false h40
    have d2' : decide ((40 : Int) < (M : Int)) = false := decide_eq_false (by omega)
    have L3 := Lib.hid (HL.out w2 X2.out)
    have X3 := Lib.hid (Ext.trans X2.out (ext_new w2 (.cells #[.slice ua M uc] 58)))
    go_wp2_with fail
    generalize w2.alloc (.cells #[.slice ua M uc] 58) = W3 at L3 X3 ⊢
    refine (pSortNoStore18_any ⟨a, 0, none⟩ _ _ [r] 2 W3 L3.out).mono ?_
    rintro e w4 ⟨⟨o4, rfl, h4⟩, x4⟩
    obtain ⟨a4, c4, rfl, -, -⟩ := h4.shape
    have X4 := Lib.hid (Ext.trans X3.out x4)
    clear h4 x4
    have L5 := Lib.hid (HL.out w4 X4.out)
    have X5 := Lib.hid (Ext.trans X4.out (ext_new w4 (.cells #[.slice ua M uc] 58)))
    go_wp2_with fail
    generalize w4.alloc (.cells #[.slice ua M uc] 58) = W5 at L5 X5 ⊢
    refine (pSortNoPurse18_any ⟨p, 0, none⟩ _ _ [r] 2 W5 L5.out).mono ?_
    rintro e w6 ⟨⟨o6, rfl, h6⟩, x6⟩
    obtain ⟨a6, c6, rfl, -, -⟩ := h6.shape
    have X6 := Lib.hid (Ext.trans X5.out x6)
    clear h6 x6
    go_wp2_with fail
    go_ret
    exact ⟨rfl, X6.out⟩
end Go.Proofs.YtaoegcakefodaaaGreat

