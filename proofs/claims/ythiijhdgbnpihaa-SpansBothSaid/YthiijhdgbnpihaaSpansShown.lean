/-
  The law's own 'shown': the document's examples.
-/
import Derived.Test.YthiijhdgbnpihaaSpansBothR
import Derived.Test.YthiijhdgbnpihaaSpansSays
namespace Go.Proofs.Ythiijhdgbnpihaa
open Go.RowKit Go.BigFrame

theorem fits_norm (f : Int → Bool) : ∀ s ∈ normS f, s.fits := fun s hs => by
  have key : ∀ (lo : Int) (l : List Sp), 0 ≤ lo → rightFrom lo l → ∀ s ∈ l, s.fits := fun lo l => by
    induction l generalizing lo with
    | nil => intro _ _ s hs; cases hs
    | cons a t ih =>
      intro h0 hr s hs
      rcases List.mem_cons.1 hs with rfl | hs
      · exact ⟨by have := hr.1; have := hr.2.1; have := hr.2.2.1; omega, by have := hr.1; have := hr.2.1; have := hr.2.2.1; omega⟩
      · exact ih (a.t + 1) (by have := hr.1; have := hr.2.1; omega) hr.2.2.2 s hs
  exact key 0 _ (Int.le_refl _) (norm_right f) s hs
theorem len_norm (f : Int → Bool) : (normS f).length ≤ 4096 := spansTo_len f 4096
/-- What a call answered may be given to another one. -/
theorem ans_fits {r : List Sp × Int} (hr : r.1 = [] ∨ ∃ f, r.1 = normS f) : r.1.length ≤ 4096 ∧ ∀ s ∈ r.1, s.fits := by
  rcases hr with h | ⟨f, h⟩
  · rw [h]; exact ⟨by simp, fun s hs => by cases hs⟩
  · rw [h]; exact ⟨len_norm f, fits_norm f⟩
theorem ofS_norm (xs : List Int) : (ofS xs).1 = [] ∨ ∃ f, (ofS xs).1 = normS f := by
  unfold ofS
  split
  · exact .inr ⟨_, rfl⟩
  · exact .inl rfl
theorem bothS_norm (a b : List Sp) (op : Bool → Bool → Bool) : (bothS a b op).1 = [] ∨ ∃ f, (bothS a b op).1 = normS f := by
  unfold bothS
  split
  · exact .inr ⟨fun k => op (inB a k) (inB b k), rfl⟩
  · exact .inl rfl
theorem InSp.of_ans {base : Nat} {w : World} {v : Value} {r : List Sp × Int} (h : OwnSp base w v r.1) (hr : r.1 = [] ∨ ∃ f, r.1 = normS f) : InSp w v r.1 :=
  ⟨h.rd, Nat.le_trans (ans_fits hr).1 (by decide), (ans_fits hr).2⟩
theorem InSp.mono {w w' : World} {u : Value} {l : List Sp} (h : InSp w u l) (hb : Below w.heap.size w w') : InSp w' u l := ⟨h.rd.mono hb, h.few, h.fits⟩

/-- Spans written out. -/
theorem lit_sp (w : World) (l : List Sp) (t : TypeId) (hl : l.length ≤ 10) : RdSp (w.alloc (.cells (l.flatMap Sp.cells).toArray t)) (.slice (some ⟨w.heap.size, 0, none⟩) l.length l.length) l := by
  have hc := row_new w (l.flatMap Sp.cells) t
  refine ⟨_, l.length, rfl, Nat.le_refl _, by unfold maxLen; omega, fun j hj => ⟨w.heap.size, 0, rfl, ?_, ?_⟩, fun h => by cases h⟩
  · have := hc _ _ (spCells l j hj).1
    rwa [add_at] at this
  · have := hc _ _ (spCells l j hj).2
    rwa [add_at, ← Nat.add_assoc] at this

theorem norm_eq {f : Int → Bool} {l : List Sp} (hl : rightFrom 0 l) (h : ∀ k, 0 ≤ k → k < 4096 → (f k = true ↔ inB l k = true)) : normS f = l :=
  right_ext (norm_right f) hl fun k => by
    rw [norm_mem]
    constructor
    · rintro ⟨a, b, c⟩; exact (h k a b).1 c
    · intro hk
      have := inB_lo hl hk
      exact ⟨this.1, this.2, (h k this.1 this.2).2 hk⟩
theorem ex_of : ofS [5, 3, 4, 9] = ([⟨3, 6⟩, ⟨9, 10⟩], 0) := by
  unfold ofS
  rw [if_pos (by decide), norm_eq (l := [⟨3, 6⟩, ⟨9, 10⟩]) (by decide)]
  intro k _ _
  simp only [inB_iff, List.contains_iff_mem, List.mem_cons, List.not_mem_nil, or_false, exists_eq_or_imp, exists_eq_left]
  omega
theorem ex_and : andS [⟨0, 5⟩] [⟨3, 9⟩] = ([⟨3, 5⟩], 0) := by
  unfold andS bothS
  rw [if_pos (by decide), norm_eq (l := [⟨3, 5⟩]) (by decide)]
  intro k _ _
  simp only [Bool.and_eq_true, inB_iff, List.mem_cons, List.not_mem_nil, or_false, exists_eq_left]
  omega
theorem ex_minus : minusS [⟨0, 9⟩] [⟨3, 5⟩] = ([⟨0, 3⟩, ⟨5, 9⟩], 0) := by
  unfold minusS bothS
  rw [if_pos (by decide), norm_eq (l := [⟨0, 3⟩, ⟨5, 9⟩]) (by decide)]
  intro k _ _
  simp only [Bool.and_eq_true, Bool.not_eq_true', ← Bool.not_eq_true, inB_iff, List.mem_cons, List.not_mem_nil, or_false, exists_eq_or_imp, exists_eq_left]
  omega

theorem in_lit (w : World) (l : List Sp) (t : TypeId) (hl : l.length ≤ 10) (hf : ∀ s ∈ l, s.fits) : InSp (w.alloc (.cells (l.flatMap Sp.cells).toArray t)) (.slice (some ⟨w.heap.size, 0, none⟩) l.length l.length) l := ⟨lit_sp w l t hl, by omega, hf⟩
theorem fits_one (a b : Int) (h : 0 ≤ a ∧ a ≤ 10 ∧ 0 ≤ b ∧ b ≤ 10) : ∀ s ∈ [(⟨a, b⟩ : Sp)], s.fits := fun s hs => by
  have : s = ⟨a, b⟩ := by simpa using hs
  subst this
  exact ⟨by simp only; omega, by simp only; omega⟩

theorem two_lit (w : World) (a b c d : Int) (h : 0 ≤ a ∧ a ≤ 10 ∧ 0 ≤ b ∧ b ≤ 10) (h' : 0 ≤ c ∧ c ≤ 10 ∧ 0 ≤ d ∧ d ≤ 10) :
    InSp ((w.alloc (.cells #[.int .i64 a, .int .i64 b] 39)).alloc (.cells #[.int .i64 c, .int .i64 d] 39)) (.slice (some ⟨w.heap.size, 0, none⟩) 1 1) [⟨a, b⟩] ∧
    InSp ((w.alloc (.cells #[.int .i64 a, .int .i64 b] 39)).alloc (.cells #[.int .i64 c, .int .i64 d] 39)) (.slice (some ⟨w.heap.size + 1, 0, none⟩) 1 1) [⟨c, d⟩] := by
  refine ⟨(in_lit w [⟨a, b⟩] 39 (by simp) (fits_one a b h)).mono (ext_new _ _), ?_⟩
  have h1 := in_lit (w.alloc (.cells #[.int .i64 a, .int .i64 b] 39)) [⟨c, d⟩] 39 (by simp) (fits_one c d h')
  have e : (w.alloc (.cells #[.int .i64 a, .int .i64 b] 39)).heap.size = w.heap.size + 1 := by simp
  rw [e] at h1
  exact h1

set_option maxRecDepth 100000 in
set_option maxHeartbeats 1000000 in
theorem shown7_any (w : World) : Calls Try.prog 9 #[] w fun e w' => e = .returned (.bool true) ∧ Ext w w' := by
  have HI := Lib.hid (show RdV (w.alloc (.cells #[.int .i64 5, .int .i64 3, .int .i64 4, .int .i64 9] 3)) (.slice (some ⟨w.heap.size, 0, none⟩) 4 4) (([5, 3, 4, 9] : List Int).map (Value.int .i64)) from .inr ⟨⟨w.heap.size, 0, none⟩, 4, rfl, by decide, by decide, row_new w _ _⟩)
  have HL := Lib.hid (fun (W : World) (l : List Sp) (hl : l.length ≤ 10) => lit_sp W l 39 hl)
  go_enter Try.func9, Try.ntmps9
  go_wp2_with fail
  refine (pOfSp_any _ [5, 3, 4, 9] _ HI.out (by decide) (by decide)).mono ?_
  rintro e w1 ⟨v1, rfl, ho1, hx1⟩
  rw [ex_of] at ho1 ⊢
  have HO1 := Lib.hid ho1
  have HX1 := Lib.hid (Ext.trans (ext_new w _) hx1)
  clear ho1 hx1
  go_wp2_with fail
  refine (pAndSp_any _ _ [⟨0, 5⟩] [⟨3, 9⟩] _ (two_lit w1 0 5 3 9 (by decide) (by decide)).1 (two_lit w1 0 5 3 9 (by decide) (by decide)).2).mono ?_
  rintro e w2 ⟨v2, rfl, ho2, hx2⟩
  rw [ex_and] at ho2 ⊢
  have HO2 := Lib.hid ho2
  have HX2 := Lib.hid (Ext.trans (Ext.trans (ext_new w1 _) (ext_new _ _)) hx2)
  clear ho2 hx2
  go_wp2_with fail
  refine (pMinusSp_any _ _ [⟨0, 9⟩] [⟨3, 5⟩] _ (two_lit w2 0 9 3 5 (by decide) (by decide)).1 (two_lit w2 0 9 3 5 (by decide) (by decide)).2).mono ?_
  rintro e w3 ⟨v3, rfl, ho3, hx3⟩
  rw [ex_minus] at ho3 ⊢
  have HO3 := Lib.hid ho3
  have HX3 := Lib.hid (Ext.trans (Ext.trans (ext_new w2 _) (ext_new _ _)) hx3)
  clear ho3 hx3
  go_wp2_with fail
  refine (refSame_any _ _ [⟨3, 6⟩, ⟨9, 10⟩] [⟨3, 6⟩, ⟨9, 10⟩] _ (HO1.out.rd.mono (Ext.trans HX2.out (Ext.trans HX3.out (ext_new w3 _)))) (HL.out w3 [⟨3, 6⟩, ⟨9, 10⟩] (by decide))).mono ?_
  rintro e w4 ⟨rfl, hx4⟩
  rw [decide_eq_true rfl]
  have HX4 := Lib.hid (Ext.trans (ext_new w3 _) hx4)
  clear hx4
  go_wp2_with fail
  refine (refSame_any _ _ [⟨3, 5⟩] [⟨3, 5⟩] _ (HO2.out.rd.mono (Ext.trans HX3.out (Ext.trans HX4.out (ext_new w4 _)))) (HL.out w4 [⟨3, 5⟩] (by decide))).mono ?_
  rintro e w5 ⟨rfl, hx5⟩
  rw [decide_eq_true rfl]
  have HX5 := Lib.hid (Ext.trans HX4.out (Ext.trans (ext_new w4 _) hx5))
  clear hx5
  go_wp2_with fail
  refine (refSame_any _ _ [⟨0, 3⟩, ⟨5, 9⟩] [⟨0, 3⟩, ⟨5, 9⟩] _ (HO3.out.rd.mono (Ext.trans HX5.out (ext_new w5 _))) (HL.out w5 [⟨0, 3⟩, ⟨5, 9⟩] (by decide))).mono ?_
  rintro e w6 ⟨rfl, hx6⟩
  rw [decide_eq_true rfl]
  have HX6 := Lib.hid (Ext.trans HX1.out (Ext.trans HX2.out (Ext.trans HX3.out (Ext.trans HX5.out (Ext.trans (ext_new w5 _) hx6)))))
  clear hx6
  go_wp2_with fail
  go_ret
  exact ⟨rfl, HX6.out⟩

end Go.Proofs.Ythiijhdgbnpihaa
