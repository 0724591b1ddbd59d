/-
  A purse: what it does, as numbers, and what it is in memory; the program's calls on it.
-/
import Derived.RegionTactic
import Derived.ChangeAlike
import Derived.BigQuiet
import Derived.Lib.Hide
import Derived.Test.YtcokdkhfnlhnlaaOnly
import Derived.Test.YtcokdkhfnlhnlaaRows
namespace Go.Proofs.Ytcokdkhfnlhnlaa
open Go.RowKit Go.BigFrame

/-- A purse: its limit, what is held, the most that was. -/
structure Pu where
  most : Int
  now : Int
  peak : Int

/-- What a purse may be. -/
structure Pu.ok (s : Pu) : Prop where
  n0 : 0 ≤ s.now
  n1 : s.now ≤ s.most
  p0 : s.now ≤ s.peak
  p1 : s.peak ≤ s.most
  m1 : s.most ≤ 1048576

def takeP (s : Pu) (n : Int) : Int × Pu :=
  if n < 0 then (1, s) else if s.most - s.now < n then (5, s) else (0, ⟨s.most, s.now + n, max s.peak (s.now + n)⟩)
def giveP (s : Pu) (n : Int) : Int × Pu :=
  if n < 0 ∨ s.now < n then (1, s) else (0, ⟨s.most, s.now - n, s.peak⟩)

theorem takeP_ok {s : Pu} (h : s.ok) (n : Int) : (takeP s n).2.ok := by
  obtain ⟨h0, h1, h2, h3, h4⟩ := h
  unfold takeP
  split
  · exact ⟨h0, h1, h2, h3, h4⟩
  · split
    · exact ⟨h0, h1, h2, h3, h4⟩
    · refine ⟨?_, ?_, ?_, ?_, ?_⟩ <;> (simp only; omega)
theorem giveP_ok {s : Pu} (h : s.ok) (n : Int) : (giveP s n).2.ok := by
  obtain ⟨h0, h1, h2, h3, h4⟩ := h
  unfold giveP
  split
  · exact ⟨h0, h1, h2, h3, h4⟩
  · refine ⟨?_, ?_, ?_, ?_, ?_⟩ <;> (simp only; omega)
theorem takeP_most (s : Pu) (n : Int) : (takeP s n).2.most = s.most := by
  by_cases h1 : n < 0
  · simp [takeP, h1]
  · by_cases h2 : s.most - s.now < n
    · simp [takeP, h1, h2]
    · simp [takeP, h1, h2]
theorem giveP_most (s : Pu) (n : Int) : (giveP s n).2.most = s.most := by unfold giveP; split <;> rfl

/-- A purse in memory: a block of its own. -/
structure PurS (w : World) (p : Nat) (s : Pu) : Prop where
  c0 : w.cell? ⟨p, 0, none⟩ = some (.int .i64 s.most)
  c1 : w.cell? ⟨p, 1, none⟩ = some (.int .i64 s.now)
  c2 : w.cell? ⟨p, 2, none⟩ = some (.int .i64 s.peak)
  free : ∀ j, w.frozen? ⟨p, j, none⟩ = false
  ok : s.ok

theorem PurS.lt {w : World} {p : Nat} {s : Pu} (h : PurS w p s) : p < w.heap.size := lt_of_cell h.c0
theorem PurS.keep {w w' : World} {p : Nat} {s : Pu} (h : PurS w p s) (hb : w'.heap[p]? = w.heap[p]?) : PurS w' p s := by
  refine ⟨(World.cell?_of_block hb).trans h.c0, (World.cell?_of_block hb).trans h.c1, (World.cell?_of_block hb).trans h.c2, fun j => ?_, h.ok⟩
  have := h.free j
  unfold World.frozen? at this ⊢
  rw [hb]
  exact this
theorem PurS.onlyS {X : Nat → Prop} {w w' : World} {p : Nat} {s : Pu} (h : PurS w p s) (ho : OnlyS X w w') (hx : ¬ X p) : PurS w' p s := h.keep (ho.block p h.lt hx)
theorem PurS.ext {w w' : World} {p : Nat} {s : Pu} (h : PurS w p s) (hx : Ext w w') : PurS w' p s := h.onlyS (X := fun _ => False) (OnlyS.of_ext hx) id
theorem PurS.onlyP {w w' : World} {p q : Nat} {s : Pu} (h : PurS w p s) (ho : OnlyP q w w') (hne : p ≠ q) : PurS w' p s := h.onlyS (X := fun b => b = q) (OnlyS.of_onlyP ho rfl) hne
/-- What is held set anew. -/
theorem PurS.setNow {w : World} {p : Nat} {s : Pu} (h : PurS w p s) (n : Int) (hk : (⟨s.most, n, s.peak⟩ : Pu).ok) : PurS (w.setCell ⟨p, 1, none⟩ (.int .i64 n)) p ⟨s.most, n, s.peak⟩ :=
  ⟨(cell_set_other (.inr (by decide))).trans h.c0, World.cell?_setCell_same _ _ _ h.c1, (cell_set_other (.inr (by decide))).trans h.c2, fun j => by simpa [go_sem] using h.free j, hk⟩
theorem PurS.setBoth {w : World} {p : Nat} {s : Pu} (h : PurS w p s) (n m : Int) (hk : (⟨s.most, n, m⟩ : Pu).ok) : PurS ((w.setCell ⟨p, 1, none⟩ (.int .i64 n)).setCell ⟨p, 2, none⟩ (.int .i64 m)) p ⟨s.most, n, m⟩ :=
  ⟨(cell_set_other (.inr (by decide))).trans ((cell_set_other (.inr (by decide))).trans h.c0), (cell_set_other (.inr (by decide))).trans (World.cell?_setCell_same _ _ _ h.c1), World.cell?_setCell_same _ _ _ ((cell_set_other (.inr (by decide))).trans h.c2), fun j => by simpa [go_sem] using h.free j, hk⟩

theorem max_if (a b : Int) : (if a < b then b else a) = max a b := by split <;> omega

/-- What New answers. -/
def PurNewed (most : Int) (w : World) (e : Ending) (w' : World) : Prop :=
  (0 ≤ most ∧ most ≤ 1048576 ∧ ∃ p, e = .returned (.tuple #[.pointer (some ⟨p, 0, none⟩), .int .i64 0]) ∧ PurS w' p ⟨most, 0, 0⟩ ∧ w.heap.size ≤ p ∧ Ext w w') ∨
  (¬ (0 ≤ most ∧ most ≤ 1048576) ∧ e = .returned (.tuple #[.pointer none, .int .i64 1]) ∧ Ext w w')

theorem new_purse (w : World) (t : TypeId) (most : Int) (h0 : 0 ≤ most) (h1 : most ≤ 1048576) : PurS (w.alloc (.cells #[.int .i64 most, .int .i64 0, .int .i64 0] t)) w.heap.size ⟨most, 0, 0⟩ := by
  have hc := row_new w [.int .i64 most, .int .i64 0, .int .i64 0] t
  refine ⟨?_, ?_, ?_, fun j => ?_, ⟨by simp, h0, by simp, h0, h1⟩⟩
  · exact hc 0 _ rfl
  · exact hc 1 _ rfl
  · exact hc 2 _ rfl
  · unfold World.frozen?
    rw [heap_alloc_new]
    simp

theorem purNew_any (most : Int) (w : World) (hm : -9223372036854775808 ≤ most ∧ most ≤ 9223372036854775807) :
    Calls Try.prog 9 #[.int .i64 most] w fun e w' => PurNewed most w e w' := by
  obtain ⟨hm0, hm1⟩ := hm
  by_cases h0 : most < 0
  · have HN := Lib.hid (show ¬ (0 ≤ most ∧ most ≤ 1048576) by omega)
    go_enter Try.func9, Try.ntmps9
    go_wp2_with fail
    go_ret2
    exact Or.inr ⟨HN.out, rfl, Ext.keeps.refl _⟩
  · by_cases h1 : 1048576 < most
    · have HN := Lib.hid (show ¬ (0 ≤ most ∧ most ≤ 1048576) by omega)
      go_enter Try.func9, Try.ntmps9
      go_wp2_with fail
      go_ret2
      exact Or.inr ⟨HN.out, rfl, Ext.keeps.refl _⟩
    · have HP := Lib.hid (new_purse w 53 most (by omega) (by omega))
      go_enter Try.func9, Try.ntmps9
      go_wp2_with fail
      go_ret2
      exact Or.inl ⟨by omega, by omega, w.heap.size, rfl, HP.out, Nat.le_refl _, ext_new w _⟩

theorem purNow_any {w : World} {p : Nat} {s : Pu} (h : PurS w p s) :
    Calls Try.prog 15 #[.pointer (some ⟨p, 0, none⟩)] w fun e w' => e = .returned (.int .i64 s.now) ∧ w = w' := by
  obtain ⟨c0, c1, c2, fr, ⟨h0, h1, h2, h3, h4⟩⟩ := h
  clear fr
  go_enter Try.func15, Try.ntmps15
  go_wp2_with fail
  go_ret
  exact ⟨rfl, rfl⟩
theorem purPeak_any {w : World} {p : Nat} {s : Pu} (h : PurS w p s) :
    Calls Try.prog 16 #[.pointer (some ⟨p, 0, none⟩)] w fun e w' => e = .returned (.int .i64 s.peak) ∧ w = w' := by
  obtain ⟨c0, c1, c2, fr, ⟨h0, h1, h2, h3, h4⟩⟩ := h
  clear fr
  go_enter Try.func16, Try.ntmps16
  go_wp2_with fail
  go_ret
  exact ⟨rfl, rfl⟩
theorem purLeft_any {w : World} {p : Nat} {s : Pu} (h : PurS w p s) :
    Calls Try.prog 17 #[.pointer (some ⟨p, 0, none⟩)] w fun e w' => e = .returned (.int .i64 (s.most - s.now)) ∧ Ext w w' := by
  obtain ⟨c0, c1, c2, fr, ⟨h0, h1, h2, h3, h4⟩⟩ := h
  clear fr
  go_enter Try.func17, Try.ntmps17
  go_wp2_with fail
  go_region
  go_wp2_with fail
  go_ret
  exact ⟨rfl, Ext.drew w⟩
theorem purGive_any {w : World} {p : Nat} {s : Pu} (n : Int) (h : PurS w p s) (hn : -9223372036854775808 ≤ n ∧ n ≤ 9223372036854775807) :
    Calls Try.prog 11 #[.pointer (some ⟨p, 0, none⟩), .int .i64 n] w fun e w' => e = .returned (.int .i64 (giveP s n).1) ∧ PurS w' p (giveP s n).2 ∧ OnlyP p w w' := by
  have H := Lib.hid h
  obtain ⟨c0, c1, c2, fr, ⟨h0, h1, h2, h3, h4⟩⟩ := h
  obtain ⟨n0, n1⟩ := hn
  unfold giveP
  by_cases hneg : n < 0
  · rw [if_pos (.inl hneg)]
    clear fr
    go_enter Try.func11, Try.ntmps11
    go_wp2_with fail
    go_ret
    exact ⟨rfl, H.out, OnlyP.refl _ _⟩
  · by_cases hbig : s.now < n
    · rw [if_pos (.inr hbig)]
      clear fr
      go_enter Try.func11, Try.ntmps11
      go_wp2_with fail
      go_ret
      exact ⟨rfl, H.out, OnlyP.refl _ _⟩
    · rw [if_neg (by omega)]
      have f1 := fr 1
      have HS := Lib.hid (H.out.setNow (s.now - n) ⟨by simp only; omega, by simp only; omega, by simp only; omega, h3, h4⟩)
      clear fr
      go_enter Try.func11, Try.ntmps11
      go_wp2_with fail
      go_ret
      exact ⟨rfl, HS.out, OnlyP.set p 1 _ _⟩
set_option maxRecDepth 100000 in
theorem purTake_any {w : World} {p : Nat} {s : Pu} (n : Int) (h : PurS w p s) (hn : -9223372036854775808 ≤ n ∧ n ≤ 9223372036854775807) :
    Calls Try.prog 13 #[.pointer (some ⟨p, 0, none⟩), .int .i64 n] w fun e w' => e = .returned (.int .i64 (takeP s n).1) ∧ PurS w' p (takeP s n).2 ∧ OnlyP p w w' := by
  have H := Lib.hid h
  obtain ⟨n0, n1⟩ := hn
  have hk := h.ok
  obtain ⟨h0, h1, h2, h3, h4⟩ := hk
  clear h
  unfold takeP
  by_cases hneg : n < 0
  · rw [if_pos hneg]
    go_enter Try.func13, Try.ntmps13
    go_wp2_with fail
    go_ret
    exact ⟨rfl, H.out, OnlyP.refl _ _⟩
  · rw [if_neg hneg]
    by_cases hbig : s.most - s.now < n
    · rw [if_pos hbig]
      go_enter Try.func13, Try.ntmps13
      go_wp2_with fail
      refine (purLeft_any H.out).mono ?_
      rintro e w1 ⟨rfl, hx⟩
      have HX := Lib.hid hx
      clear hx
      go_wp2_with fail
      go_ret
      exact ⟨rfl, H.out.ext HX.out, OnlyP.of_ext HX.out⟩
    · rw [if_neg hbig]
      go_enter Try.func13, Try.ntmps13
      go_wp2_with fail
      refine (purLeft_any H.out).mono ?_
      rintro e w1 ⟨rfl, hx⟩
      have HX := Lib.hid hx
      have H1 := Lib.hid (H.out.ext hx)
      clear hx
      obtain ⟨c0, c1, c2, fr, _⟩ := H1.out
      have f1 := fr 1
      have f2 := fr 2
      have HS1 := Lib.hid (World.cell?_setCell_same w1 ⟨p, 1, none⟩ (.int .i64 (s.now + n)) c1)
      have HS2 := Lib.hid ((cell_set_other (w := w1) (g := p) (i := 1) (j := 2) (b := p) (u := .int .i64 (s.now + n)) (.inr (by decide))).trans c2)
      clear fr
      by_cases hmx : s.peak < s.now + n
      · have HS := Lib.hid ((H1.out.setBoth (s.now + n) (s.now + n) ⟨by simp only; omega, by simp only; omega, by simp only; omega, by simp only; omega, h4⟩))
        have HM := Lib.hid (show max s.peak (s.now + n) = s.now + n by omega)
        go_wp2_with fail
        go_region
        go_wp2_with fail
        go_ret
        rw [HM.out]
        exact ⟨rfl, HS.out.ext (Ext.drew _), OnlyP.trans (OnlyP.of_ext HX.out) (OnlyP.trans (OnlyP.set p 1 _ _) (OnlyP.trans (OnlyP.set p 2 _ _) (OnlyP.of_ext (Ext.drew _))))⟩
      · have HS := Lib.hid ((H1.out.setBoth (s.now + n) s.peak ⟨by simp only; omega, by simp only; omega, by simp only; omega, by simp only; omega, h4⟩))
        have HM := Lib.hid (show max s.peak (s.now + n) = s.peak by omega)
        go_wp2_with fail
        go_region
        go_wp2_with fail
        go_ret
        rw [HM.out]
        exact ⟨rfl, HS.out.ext (Ext.drew _), OnlyP.trans (OnlyP.of_ext HX.out) (OnlyP.trans (OnlyP.set p 1 _ _) (OnlyP.trans (OnlyP.set p 2 _ _) (OnlyP.of_ext (Ext.drew _))))⟩

end Go.Proofs.Ytcokdkhfnlhnlaa
