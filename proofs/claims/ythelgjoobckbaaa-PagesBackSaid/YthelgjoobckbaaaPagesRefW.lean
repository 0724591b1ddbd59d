/-
  The contracts of the document's own store of pages: Free, Write.
-/
import Derived.RegionTactic
import Derived.ChangeAlike
import Derived.BigQuiet
import Derived.Test.YthelgjoobckbaaaPagesLay
namespace Go.Proofs.Ythelgjoobckbaaa
open Go.RowKit Go.BigFrame

/-- Only block g of what was there has changed. -/
def OnlyP (g : Nat) (w w' : World) : Prop := w.grownBy w' (some g)
theorem OnlyP.refl (g : Nat) (w : World) : OnlyP g w w := ⟨rfl, rfl, rfl, Nat.le_refl _, fun _ _ _ => rfl⟩
theorem OnlyP.trans {g : Nat} {x y z : World} (h : OnlyP g x y) (k : OnlyP g y z) : OnlyP g x z :=
  ⟨k.os.trans h.os, k.tape.trans h.tape, k.output.trans h.output, Nat.le_trans h.size k.size, fun i hi hne => (k.block i (Nat.lt_of_lt_of_le hi h.size) hne).trans (h.block i hi hne)⟩
theorem OnlyP.keeps (g : Nat) : Keeps (OnlyP g) := ⟨OnlyP.refl g, fun _ _ _ h k => OnlyP.trans h k⟩
instance (g : Nat) (w : World) : Inhabited (Later (OnlyP g) w) := ⟨⟨w, OnlyP.refl _ _⟩⟩
theorem OnlyP.of_ext {g : Nat} {w w' : World} (h : Ext w w') : OnlyP g w w' := ⟨h.os, h.tape, h.output, h.size, fun k hk _ => h.block k hk⟩
theorem OnlyP.set (g i : Nat) (w : World) (u : Value) : OnlyP g w (w.setCell ⟨g, i, none⟩ u) := by
  refine ⟨rfl, rfl, rfl, by simp [World.setCell], fun k _ hk => ?_⟩
  rw [Below.heap_setCell _ _ _ _ (fun e => hk (by rw [e]))]

theorem cell_set_other {w : World} {g i j : Nat} {b : Nat} {u : Value} (h : b ≠ g ∨ j ≠ i) : (w.setCell ⟨g, i, none⟩ u).cell? ⟨b, j, none⟩ = w.cell? ⟨b, j, none⟩ := by
  rw [World.cell?_setCell_other]
  intro e
  simp only [Addr.mk.injEq, and_true] at e
  rcases h with h | h
  · exact h e.1.symm
  · exact h e.2.symm

/-- A page set. -/
theorem RSto.put {w : World} {q g : Nat} {s : St} (h : RSto w q g s) {i : Nat} (hi : i < s.length) (o : Option (List UInt8)) (a b : Value) (ho : pgC o = [a, b]) :
    RSto ((w.setCell ⟨g, i * 2, none⟩ a).setCell ⟨g, i * 2 + 1, none⟩ b) q g (s.set i o) := by
  have hsi : s[i]? = some s[i] := List.getElem?_eq_getElem hi
  have c0 := h.on hsi
  obtain ⟨y, c1⟩ : ∃ y, w.cell? ⟨g, i * 2 + 1, none⟩ = some y := by
    cases hsv : s[i] with
    | none => rw [hsv] at hsi; exact ⟨_, h.at' i _ hsi 1 _ rfl⟩
    | some p => rw [hsv] at hsi; exact ⟨_, h.at' i _ hsi 1 _ rfl⟩
  refine ⟨?_, fun k o' hk j u hj => ?_, fun j => by simpa [go_sem] using h.free j, h.ne, by simpa [World.setCell] using h.lt, by rw [List.length_set]; exact h.few⟩
  · rw [cell_set_other (.inl h.ne), cell_set_other (.inl h.ne), List.length_set]
    exact h.top
  · rw [List.getElem?_set] at hk
    by_cases e : i = k
    · subst e
      rw [if_pos rfl, if_pos hi] at hk
      cases hk
      rw [ho] at hj
      match j, hj with
      | 0, hj =>
        cases hj
        rw [Nat.add_zero, cell_set_other (.inr (by omega))]
        exact World.cell?_setCell_same _ _ _ c0
      | 1, hj =>
        cases hj
        exact World.cell?_setCell_same _ _ _ (by rw [cell_set_other (.inr (by omega))]; exact c1)
    · rw [if_neg e] at hk
      have hj2 : j < 2 := by
        have := (List.getElem?_eq_some_iff.1 hj).1
        cases o' <;> simpa [pgC] using this
      rw [cell_set_other (.inr (by omega)), cell_set_other (.inr (by omega))]
      exact h.at' k o' hk j u hj
/-- Its bytes alone. -/
theorem RSto.putB {w : World} {q g : Nat} {s : St} (h : RSto w q g s) {i : Nat} {p : List UInt8} (hi : s[i]? = some (some p)) (p' : List UInt8) :
    RSto (w.setCell ⟨g, i * 2 + 1, none⟩ (.string ⟨p'.toArray⟩)) q g (s.set i (some p')) := by
  have hlt := (List.getElem?_eq_some_iff.1 hi).1
  have c1 := h.bytes hi
  refine ⟨?_, fun k o' hk j u hj => ?_, fun j => by simpa [go_sem] using h.free j, h.ne, by simpa [World.setCell] using h.lt, by rw [List.length_set]; exact h.few⟩
  · rw [cell_set_other (.inl h.ne), List.length_set]
    exact h.top
  · rw [List.getElem?_set] at hk
    by_cases e : i = k
    · subst e
      rw [if_pos rfl, if_pos hlt] at hk
      cases hk
      match j, hj with
      | 0, hj =>
        cases hj
        rw [Nat.add_zero, cell_set_other (.inr (by omega))]
        exact h.at' i _ hi 0 _ rfl
      | 1, hj =>
        cases hj
        exact World.cell?_setCell_same _ _ _ c1
    · rw [if_neg e] at hk
      have hj2 : j < 2 := by
        have := (List.getElem?_eq_some_iff.1 hj).1
        cases o' <;> simpa [pgC] using this
      rw [cell_set_other (.inr (by omega))]
      exact h.at' k o' hk j u hj

set_option maxRecDepth 100000 in
theorem refFree_any (q g : Nat) (s : St) (id : Int) (w : World) (h : RSto w q g s) (h0 : -9223372036854775808 ≤ id) (h1 : id ≤ 9223372036854775807) :
    Calls Try.prog 31 #[.pointer (some ⟨q, 0, none⟩), .int .i64 id] w fun e w' => e = .returned (.int .i64 (freeS s id).1) ∧ RSto w' q g (freeS s id).2 ∧ OnlyP g w w' := by
  have HH := Lib.hid (refHas_any q g s id w h h0 h1)
  have hq := h.top
  have hfew := h.few
  unfold freeS
  cases hp : pageS s id with
  | none =>
    have HR := Lib.hid h
    rw [hp] at HH
    clear hp hq hfew h
    go_enter Try.func31, Try.ntmps31
    go_wp2_with fail
    refine HH.out.mono ?_
    rintro e w2 ⟨rfl, rfl⟩
    go_wp2_with fail
    go_ret
    exact ⟨rfl, HR.out, OnlyP.refl _ _⟩
  | some p =>
    obtain ⟨k0, k1, hs⟩ := pageS_lt hp
    rw [hp] at HH
    obtain ⟨k, rfl⟩ := Int.eq_ofNat_of_zero_le k0
    rw [Int.toNat_natCast] at hs
    have c0 := h.on hs
    have c1 := h.bytes hs
    have f0 := h.free (k * 2)
    have f1 := h.free (k * 2 + 1)
    have HR := Lib.hid (show RSto ((w.setCell ⟨g, k * 2, none⟩ (.bool false)).setCell ⟨g, k * 2 + 1, none⟩ (.string ⟨#[]⟩)) q g (setS s k none) from h.put (i := k) (by omega) none _ _ rfl)
    clear hp hs h
    generalize setS s (k : Int) none = S' at HR ⊢
    generalize s.length = L at hq hfew k1
    go_enter Try.func31, Try.ntmps31
    go_wp2_with fail
    refine HH.out.mono ?_
    rintro e w2 ⟨rfl, rfl⟩
    go_wp2_with fail
    go_ret
    exact ⟨rfl, HR.out, OnlyP.trans (OnlyP.set g (k * 2) _ _) (OnlyP.set g (k * 2 + 1) _ _)⟩

set_option maxRecDepth 100000 in
set_option maxHeartbeats 1000000 in
theorem refWrite_any (q g : Nat) (s : St) (id : Int) (b : Value) (l : List UInt8) (w : World) (h : RSto w q g s) (h0 : -9223372036854775808 ≤ id) (h1 : id ≤ 9223372036854775807) (hr : Rd w b l) :
    Calls Try.prog 32 #[.pointer (some ⟨q, 0, none⟩), .int .i64 id, b] w fun e w' => e = .returned (.int .i64 (writeS s id l).1) ∧ RSto w' q g (writeS s id l).2 ∧ OnlyP g w w' := by
  have HH := Lib.hid (refHas_any q g s id w h h0 h1)
  have hq := h.top
  have hfew := h.few
  obtain ⟨ab, cb, rfl, hcb1, hcb2⟩ := hr.shape
  have HRD := Lib.hid hr
  clear hr
  unfold maxLen at hcb2
  unfold writeS
  cases hp : pageS s id with
  | none =>
    have HR := Lib.hid h
    rw [hp] at HH
    clear hp hq hfew h
    go_enter Try.func32, Try.ntmps32
    go_wp2_with fail
    refine HH.out.mono ?_
    rintro e w2 ⟨rfl, rfl⟩
    go_wp2_with fail
    go_ret
    exact ⟨rfl, HR.out, OnlyP.refl _ _⟩
  | some p =>
    by_cases h56 : 56 < l.length
    · have HR := Lib.hid h
      rw [hp] at HH
      simp only
      rw [if_pos h56]
      have hd : decide (56 < (l.length : Int)) = true := decide_eq_true (by omega)
      clear hp hq hfew h h56 HRD
      generalize l.length = M at hd hcb1 ⊢
      go_enter Try.func32, Try.ntmps32
      go_wp2_with fail
      refine HH.out.mono ?_
      rintro e w2 ⟨rfl, rfl⟩
      go_wp2_with fail
      go_ret
      exact ⟨rfl, HR.out, OnlyP.refl _ _⟩
    · obtain ⟨k0, k1, hs⟩ := pageS_lt hp
      rw [hp] at HH
      obtain ⟨k, rfl⟩ := Int.eq_ofNat_of_zero_le k0
      rw [Int.toNat_natCast] at hs
      have HRS := Lib.hid h
      have HS := Lib.hid hs
      have HLY := Lib.hid (fun W hx => refLay_any k (.slice ab l.length cb) l W (HRD.out.mono (show Ext w W from hx)) (by omega) (by omega))
      simp only [Int.toNat_natCast]
      rw [if_neg h56]
      obtain ⟨S', hS'⟩ : ∃ S', setS s (k : Int) (some (layP k l)) = S' := ⟨_, rfl⟩
      rw [hS']
      have HST := Lib.hid (show s.set k (some (layP k l)) = S' from hS')
      have hd : decide (56 < (l.length : Int)) = false := decide_eq_false (by omega)
      clear hp hs h h56 hS'
      generalize hM : layP k l = M at HLY HST
      generalize l.length = N at HRD HLY hd hcb1
      generalize hL : s.length = L at hq hfew k1
      clear hL hM
      have hqz : ∀ z : Later (OnlyP g) w.drew, z.val.cell? ⟨q, 0, none⟩ = some (.slice (some ⟨g, 0, none⟩) L L) := fun z => World.grownBy.cell z.ext (show w.drew.cell? ⟨q, 0, none⟩ = _ from hq) (fun hh => HRS.out.ne (by simpa using hh))
      go_enter Try.func32, Try.ntmps32
      go_wp2_with fail
      refine HH.out.mono ?_
      rintro e w2 ⟨rfl, rfl⟩
      go_wp2_with fail
      refine wp_region_segs (OnlyP g) (OnlyP.keeps _) [([0, 1, 2, 3, 4, 5, 6], some 7), ([8, 9], some 10)] (by kernel_rfl) (by kernel_rfl) (fun c a a' w e h => (by exact ⟨e ▸ h.1, h.2⟩)) ?_
      simp only [pickSegs, pickOps, List.map_cons, List.map_nil, Option.map_some, Option.getD_some, List.getElem?_toArray, List.getElem?_cons_zero, List.getElem?_cons_succ]
      refine wpSegs_some fun K hK => ?_
      repeat go_big_quiet_step (fail)
      refine wpQuiet_nil ?_
      clear hqz
      go_wp2_with fail
      refine (HLY.out _ (Ext.drew w)).mono ?_
      rintro e w3 ⟨rfl, hx3⟩
      have HX3 := Lib.hid hx3
      have HR3 := Lib.hid (HRS.out.mono (Ext.trans (Ext.drew w) hx3))
      have c1 := HR3.out.bytes HS.out
      have f1 := HR3.out.free (k * 2 + 1)
      clear hx3
      go_wp2_with fail
      refine ⟨OnlyP.of_ext HX3.out, hK _ _ ?_⟩
      clear hK K
      refine wpSegs_some fun K hK => ?_
      repeat go_big_quiet_step (fail)
      refine wpQuiet_nil ?_
      go_wp2_with fail
      refine ⟨OnlyP.set g (k * 2 + 1) _ _, hK _ _ ?_⟩
      clear hK K
      refine wpSegs_nil ?_
      go_wp2_with fail
      go_ret
      refine ⟨rfl, ?_, OnlyP.trans (OnlyP.of_ext (Ext.trans (Ext.drew w) HX3.out)) (OnlyP.set g (k * 2 + 1) _ _)⟩
      rw [← HST.out]
      exact HR3.out.putB HS.out M

end Go.Proofs.Ythelgjoobckbaaa
