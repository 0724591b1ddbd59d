/-
  Texts of this proof, merged.
-/
import Derived.Test.YtaoegcakefodaaaGreatZ1
import Derived.Test.YtaoegcakefodaaaGreatZ2
import Derived.Test.YtaoegcakefodaaaGreatZ3
import Derived.Test.YtaoegcakefodaaaGreatZ4
import Derived.Test.YtaoegcakefodaaaGreatZ5
import Derived.Test.YtaoegcakefodaaaGreatZ6
import Derived.Test.YtaoegcakefodaaaGreatZ7
import Derived.Test.YtaoegcakefodaaaGreatZ8
import Derived.Test.YtaoegcakefodaaaGreatZ9
import Derived.Test.YtaoegcakefodaaaGreatZ10
import Derived.Test.YtaoegcakefodaaaGreatZ11
import Derived.Test.YtaoegcakefodaaaGreatZ12
import Derived.Test.YtaoegcakefodaaaGreatZ13
import Derived.Test.YtaoegcakefodaaaGreatZ14
import Derived.Test.YtaoegcakefodaaaGreatZ15
import Derived.Test.YtaoegcakefodaaaGreatZ16
import Derived.Test.YtaoegcakefodaaaGreatZ17
namespace Go.Proofs.YtaoegcakefodaaaGreat
open Go.RowKit Go.BigFrame
def Next18 (O C : Nat → Prop) (p q t : Nat) (s : St) (pu : Pu) (K : Value) (held : Int) (R : Value) (c f : Nat) (ids : List Nat) (x : List (List V)) (k : Nat) (w : World) (e : Ending) (w' : World) : Prop :=
  ∃ O' C', PSto O' w' p s ∧ OnlyS (fun b => O b ∨ C b ∨ b = q ∨ b = t) w w' ∧ (∀ b, O' b → O b ∨ w.heap.size ≤ b) ∧ (∀ b, C' b → (C b ∨ w.heap.size ≤ b) ∧ b < w'.heap.size) ∧ (∀ b, O' b → ¬ C' b) ∧
    ((k = x.length ∧ e = .returned (.tuple #[.slice none 0 0, .int .i64 0]) ∧ Cur C' w' c f p ids x k ∧ PurS w' q pu ∧ Wk5 w' t p q K held R) ∨
     ∃ hk : k < x.length, Cur C' w' c f p ids x (k + 1) ∧
      ((rowCost x[k] ≤ pu.most - pu.now ∧ (∃ v, e = .returned (.tuple #[v, .int .i64 0]) ∧ OptO w.heap.size (fun b => w.heap.size ≤ b ∧ ¬ O' b ∧ ¬ C' b) w' v (some x[k])) ∧ (∃ pk, PurS w' q ⟨pu.most, pu.now + rowCost x[k], pk⟩) ∧ Wk5 w' t p q K (held + rowCost x[k]) R) ∨
       (pu.most - pu.now < rowCost x[k] ∧ e = .returned (.tuple #[.slice none 0 0, .int .i64 5]) ∧ PurS w' q pu ∧ Wk5 w' t p q K held R)))
theorem holds_ends {x : List (List V)} {ids : List Nat} {s : St} (h : Holds s ids (rowsB x)) (k : Nat) : (rowsB (x.take k)).length ≤ 56 * ids.length := by
  have h1 : (rowsB x).length = (rowsB (x.take k)).length + (rowsB (x.drop k)).length := by rw [← List.length_append, ← rowsB_append, List.take_append_drop]
  have h2 := h.count
  have h3 := need_ge56 (rowsB x).length
  omega
theorem holds_at {s : St} : ∀ {ids : List Nat} {b : List UInt8}, Holds s ids b → ∀ j, (h : j < ids.length) → readS s (ids[j] : Int) = (fill ((b.drop (56 * j)).take 56), 0)
  | id :: t, b, ⟨_, h2, h3⟩, 0, _ => by
    have := read_laid h2 (by rw [List.length_take]; omega)
    simpa using this
  | id :: t, b, ⟨_, h2, h3⟩, j + 1, h => by
    have ih := holds_at h3 j (by simpa using h)
    rw [List.drop_drop] at ih
    have e : 56 * (j + 1) = 56 + 56 * j := by omega
    rw [e]
    exact ih
theorem holds_readTo {x : List (List V)} {ids : List Nat} {s : St} (h : Holds s ids (rowsB x)) : ReadTo s ids (rowsB x) ids.length := ⟨Nat.le_refl _, fun j hj _ => holds_at h j hj⟩
set_option maxRecDepth 100000 in
set_option maxHeartbeats 1000000 in
theorem pNext18_any (O F C : Nat → Prop) (p q t : Nat) (s : St) (pu : Pu) (K : Value) (held : Int) (R : Value) (c f : Nat) (ids : List Nat) (x : List (List V)) (k : Nat) (w : World)
    (h : PSto O w p s) (hok : okS s) (hF : Fil F w f p ids x.length) (hC : Cur C w c f p ids x k) (hkx : k ≤ x.length) (hoc : ∀ b, O b → ¬ C b) (hfit : FitB x) (hm : ∀ r ∈ x, mayR r = 0) (hH : Holds s ids (rowsB x))
    (hb : Wk5 w t p q K held R) (hp : PurS w q pu) (hne : q ≠ t) (ho : ¬ O q ∧ ¬ O t) (hc : ¬ C q ∧ ¬ C t) (hcost : ∀ r ∈ x, rowCost r ≤ 1000000000) (h0 : 0 ≤ held) (h1 : held ≤ 1048576) :
    Calls Tryz.prog 87 #[.pointer (some ⟨t, 0, none⟩), .pointer (some ⟨c, 0, none⟩)] w (Next18 O C p q t s pu K held R c f ids x k w) := by
  have HB := Lib.hid hb
  have HPU := Lib.hid hp
  have HNE := Lib.hid hne
  have HO := Lib.hid ho
  have HC := Lib.hid hc
  have HOC := Lib.hid hoc
  by_cases hk : k < x.length
  · have HNX := Lib.hid (pNextRow17_any O F C s c f p ids.length k ids x w h hok hF hC hoc hfit hm hH.count (holds_readTo hH) hk (holds_ends hH (k + 1)))
    have hcr := hcost x[k] (List.getElem_mem hk)
    have hlr := (hfit.2 x[k] (List.getElem_mem hk)).1
    have HK := Lib.hid hk
    generalize hr : x[k] = r at HNX hcr hlr
    have HR := Lib.hid hr
    have HL := Lib.hid (show ([] : List V).length + r.length ≤ 100000000 from by simp; omega)
    clear hb hp hne ho hc hoc h hok hF hC hfit hm hH hcost hk hr hkx hlr
    go_enter Tryz.func87, Tryz.ntmps87
    go_wp2_with fail
    refine HNX.out.mono ?_
    rintro e w2 ⟨v, O2, C2, rfl, hv, hp2, hc2, ho2, hn2, hm2, hoc2, hvo⟩
    obtain ⟨va, vc, rfl, -, -⟩ := own_shapeG hv
    have HV := Lib.hid hv
    have HP2 := Lib.hid hp2
    have HC2 := Lib.hid hc2
    have HO2 := Lib.hid ho2
    have HN2 := Lib.hid hn2
    have HM2 := Lib.hid hm2
    have HOC2 := Lib.hid (show ∀ b, O2 b → ¬ C2 b from fun b h5 h6 => by
      rcases Nat.lt_or_ge b w.heap.size with h7 | h7
      · exact HOC.out b ((hn2 b h5).resolve_right (by omega)) ((hm2 b h6).resolve_right (by omega))
      · exact hoc2 b h7 h5 h6)
    have hx2 : ∀ b, b = q ∨ b = t → ¬ (O b ∨ C b) := fun b h5 h6 => by
      rcases h5 with rfl | rfl
      · rcases h6 with h6 | h6
        · exact HO.out.1 h6
        · exact HC.out.1 h6
      · rcases h6 with h6 | h6
        · exact HO.out.2 h6
        · exact HC.out.2 h6
    have HPU2 := Lib.hid (HPU.out.onlyS ho2 (hx2 q (.inl rfl)))
    have HB2 := Lib.hid (show Wk5 w2 t p q K held R from HB.out.onlyS ho2 (hx2 t (.inr rfl)))
    have HTK := Lib.hid (pTake18_any t p q K R held pu _ r w2 HB2.out HPU2.out HNE.out (RdVals.of_owns hv) hcr h0 h1)
    have HVO := Lib.hid hvo
    clear hv hp2 hc2 ho2 hn2 hm2 hoc2 hvo hx2
    go_wp2_with fail
    refine HTK.out.mono ?_
    rintro e w3 ⟨ho3, ⟨hle, rfl, ⟨pk, hpu3⟩, hb3⟩ | ⟨hlt, rfl, hpu3, hb3⟩⟩
    · have hqt : ∀ b, (b = q ∨ b = t) → b < w.heap.size := fun b hb => by
        rcases hb with rfl | rfl
        · exact HPU.out.lt
        · exact HB.out.lt
      have HQT := Lib.hid hqt
      have HO3 := Lib.hid ho3
      have HPU3 := Lib.hid hpu3
      have HB3 := Lib.hid hb3
      have HLE := Lib.hid hle
      have HV3 := Lib.hid (own_others HV.out ho3 fun k hk h5 => by
        have := (HV.out.lt k hk).1
        have := hqt k h5
        omega)
      have HR3 := Lib.hid ((RdVals.of_owns HV3.out).mono (ext_new w3 (.cells #[] 56)))
      clear ho3 hpu3 hb3 hle hqt
      go_wp2_with (at_builtin; first
        | (refine wpList_append_valsN rfl (.tmp 25) (.tmp 26) 58 rfl Tryz.underlying58 w3.heap.size _ ([] : List V) _ r rfl (empty_vals w3) rfl HR3.out HL.out (by simp) ?_
           intro v4 w4 hown4 hbel4 honly4 hnil4
           rw [List.nil_append] at hown4
           have HO4 := Lib.hid hown4
           have HE4 := Lib.hid (show Ext w3 w4 from (show Below w3.heap.size w3 _ from ext_new w3 _).trans hbel4)
           have HN4 := Lib.hid (show v4 ≠ .slice none 0 0 from fun e => by have := (hnil4.1 e).1; cases this)
           clear hown4 hbel4 honly4 hnil4))
      go_ret2
      have hs2 := HO2.out.size
      have hs3 := HO3.out.size
      have hs4 := HE4.out.size
      have hqt := HQT.out
      have hno : ∀ b, b = q ∨ b = t → ¬ O2 b ∧ ¬ C2 b := fun b h5 => by
        have h6 := hqt b h5
        refine ⟨fun h7 => ?_, fun h7 => ?_⟩
        · have h8 := (HN2.out b h7).resolve_right (by omega)
          rcases h5 with rfl | rfl
          · exact HO.out.1 h8
          · exact HO.out.2 h8
        · have h8 := (HM2.out b h7).resolve_right (by omega)
          rcases h5 with rfl | rfl
          · exact HC.out.1 h8
          · exact HC.out.2 h8
      have hP3 := (HP2.out.onlyS HO3.out fun b hb h5 => (hno b h5).1 hb)
      have hC3 := HC2.out.keep HO3.out fun b h5 => (hno b h5).2
      have hR := HR.out
      subst hR
      refine ⟨O2, C2, hP3.mono HE4.out, ?_, HN2.out, fun b hb => ⟨HM2.out b hb, Nat.lt_of_lt_of_le (hC3.lt hb) hs4⟩, HOC2.out, .inr ⟨HK.out, hC3.keep (OnlyS.of_ext (X := fun _ => False) HE4.out) (fun _ h => h.elim), .inl ⟨HLE.out, ⟨_, rfl, ?_⟩, ⟨pk, ?_⟩, ?_⟩⟩⟩
      · refine OnlyS.trans (HO2.out.mono fun b _ hb => ?_) (OnlyS.trans (HO3.out.mono fun b _ hb => ?_) (OnlyS.of_ext HE4.out) fun _ _ h => h) fun _ _ h => h
        · rcases hb with hb | hb
          · exact .inl hb
          · exact .inr (.inl hb)
        · exact .inr (.inr hb)
      · refine ⟨⟨Joins.ownsRow_le HO4.out (by omega), HN4.out⟩, fun b hb => ?_⟩
        have h5 := (HO4.out.lt b hb).1
        refine ⟨by omega, fun h6 => ?_, fun h6 => ?_⟩
        · have := hP3.lt b h6
          omega
        · have := hC3.lt h6
          omega
      · exact HPU3.out.ext HE4.out
      · exact HB3.out.ext HE4.out
    · have HO3 := Lib.hid ho3
      have HPU3 := Lib.hid hpu3
      have HB3 := Lib.hid hb3
      have HLE := Lib.hid hlt
      have HQT := Lib.hid (show ∀ b, (b = q ∨ b = t) → b < w.heap.size from fun b hb => by
        rcases hb with rfl | rfl
        · exact HPU.out.lt
        · exact HB.out.lt)
      clear ho3 hpu3 hb3 hlt
      go_wp2_with fail
      go_ret2
      have hqt := HQT.out
      have hno : ∀ b, b = q ∨ b = t → ¬ O2 b ∧ ¬ C2 b := fun b h5 => by
        have h6 := hqt b h5
        refine ⟨fun h7 => ?_, fun h7 => ?_⟩
        · have h8 := (HN2.out b h7).resolve_right (by omega)
          rcases h5 with rfl | rfl
          · exact HO.out.1 h8
          · exact HO.out.2 h8
        · have h8 := (HM2.out b h7).resolve_right (by omega)
          rcases h5 with rfl | rfl
          · exact HC.out.1 h8
          · exact HC.out.2 h8
      have hP3 := (HP2.out.onlyS HO3.out fun b hb h5 => (hno b h5).1 hb)
      have hC3 := HC2.out.keep HO3.out fun b h5 => (hno b h5).2
      have hR := HR.out
      subst hR
      refine ⟨O2, C2, hP3, ?_, HN2.out, fun b hb => ⟨HM2.out b hb, hC3.lt hb⟩, HOC2.out, .inr ⟨HK.out, hC3, .inr ⟨HLE.out, rfl, HPU3.out, HB3.out⟩⟩⟩
      refine OnlyS.trans (HO2.out.mono fun b _ hb => ?_) (HO3.out.mono fun b _ hb => ?_) fun _ _ h => h
      · rcases hb with hb | hb
        · exact .inl hb
        · exact .inr (.inl hb)
      · exact .inr (.inr hb)
  · obtain rfl : k = x.length := by omega
    have HNX := Lib.hid (pNextEnd17_any O F C s c f p ids x w h hok hF hC hoc hfit hm hH.count (holds_readTo hH))
    clear hb hp hne ho hc hoc h hok hF hC hfit hm hH hcost hk hkx
    go_enter Tryz.func87, Tryz.ntmps87
    go_wp2_with fail
    refine HNX.out.mono ?_
    rintro e w2 ⟨v, O2, C2, rfl, hv, hp2, hc2, ho2, hn2, hm2, hoc2⟩
    obtain ⟨va, vc, rfl, -, -⟩ := hv.shape
    have HP2 := Lib.hid hp2
    have HC2 := Lib.hid hc2
    have HO2 := Lib.hid ho2
    have HN2 := Lib.hid hn2
    have HM2 := Lib.hid hm2
    have HOC2 := Lib.hid (show ∀ b, O2 b → ¬ C2 b from fun b h5 h6 => by
      rcases Nat.lt_or_ge b w.heap.size with h7 | h7
      · exact HOC.out b ((hn2 b h5).resolve_right (by omega)) ((hm2 b h6).resolve_right (by omega))
      · exact hoc2 b h7 h5 h6)
    clear hv hp2 hc2 ho2 hn2 hm2 hoc2
    go_wp2_with fail
    go_ret2
    have hx2 : ∀ b, b = q ∨ b = t → ¬ (O b ∨ C b) := fun b h5 h6 => by
      rcases h5 with rfl | rfl
      · rcases h6 with h6 | h6
        · exact HO.out.1 h6
        · exact HC.out.1 h6
      · rcases h6 with h6 | h6
        · exact HO.out.2 h6
        · exact HC.out.2 h6
    refine ⟨O2, C2, HP2.out, HO2.out.mono fun b _ hb => ?_, HN2.out, fun b hb => ⟨HM2.out b hb, HC2.out.lt hb⟩, HOC2.out, .inl ⟨rfl, rfl, HC2.out, HPU.out.onlyS HO2.out (hx2 q (.inl rfl)), HB.out.onlyS HO2.out (hx2 t (.inr rfl))⟩⟩
    rcases hb with hb | hb
    · exact .inl hb
    · exact .inr (.inl hb)
end Go.Proofs.YtaoegcakefodaaaGreat

namespace Go.Proofs.YtaoegcakefodaaaGreat
open Go.RowKit
structure Fam (B : Nat) (Z : Nat → Nat → Prop) (w : World) : Prop where
  lt : ∀ i b, Z i b → B ≤ b ∧ b < w.heap.size
  dis : ∀ i j, i ≠ j → ∀ b, Z i b → ¬ Z j b
  size : B ≤ w.heap.size
theorem Fam.none (w : World) : Fam w.heap.size (fun _ _ => False) w := ⟨fun _ _ h => h.elim, fun _ _ _ _ h => h.elim, Nat.le_refl _⟩
theorem Fam.later {B : Nat} {Z : Nat → Nat → Prop} {w w' : World} (h : Fam B Z w) (hs : w.heap.size ≤ w'.heap.size) : Fam B Z w' := ⟨fun i b hb => ⟨(h.lt i b hb).1, Nat.lt_of_lt_of_le (h.lt i b hb).2 hs⟩, h.dis, Nat.le_trans h.size hs⟩
theorem Fam.step {B : Nat} {Z Z' : Nat → Nat → Prop} {w w' : World} (h : Fam B Z w) (S : Nat → Prop) (hs : w.heap.size ≤ w'.heap.size) (hS : ∀ i, ¬ S i → ∀ b, Z' i b → Z i b)
    (hin : ∀ i, S i → ∀ b, Z' i b → ((∃ j, S j ∧ Z j b) ∨ w.heap.size ≤ b) ∧ b < w'.heap.size) (hdis : ∀ i j, S i → S j → i ≠ j → ∀ b, Z' i b → ¬ Z' j b) : Fam B Z' w' := by
  refine ⟨fun i b hb => ?_, fun i j hij b hi hj => ?_, Nat.le_trans h.size hs⟩
  · by_cases hi : S i
    · obtain ⟨h1, h2⟩ := hin i hi b hb
      rcases h1 with ⟨j, -, h3⟩ | h3
      · exact ⟨(h.lt j b h3).1, h2⟩
      · exact ⟨Nat.le_trans h.size h3, h2⟩
    · have := h.lt i b (hS i hi b hb)
      exact ⟨this.1, Nat.lt_of_lt_of_le this.2 hs⟩
  · by_cases si : S i
    · by_cases sj : S j
      · exact hdis i j si sj hij b hi hj
      · have hj' := hS j sj b hj
        rcases (hin i si b hi).1 with ⟨k, sk, hk⟩ | hk
        · exact h.dis k j (fun e => sj (e ▸ sk)) b hk hj'
        · have := (h.lt j b hj').2
          omega
    · have hi' := hS i si b hi
      by_cases sj : S j
      · rcases (hin j sj b hj).1 with ⟨k, sk, hk⟩ | hk
        · exact h.dis k i (fun e => si (e ▸ sk)) b hk hi'
        · have := (h.lt i b hi').2
          omega
      · exact h.dis i j hij b hi' (hS j sj b hj)
theorem Fam.other {B : Nat} {Z : Nat → Nat → Prop} {w : World} (h : Fam B Z w) {S : Nat → Prop} {j : Nat} (hj : ¬ S j) : ∀ b, (∃ i, S i ∧ Z i b) → ¬ Z j b := fun b ⟨i, hi, hb⟩ => h.dis i j (fun e => hj (e ▸ hi)) b hb
def setZ (Z : Nat → Nat → Prop) (i : Nat) (X : Nat → Prop) : Nat → Nat → Prop := fun j => if j = i then X else Z j
theorem setZ_same (Z : Nat → Nat → Prop) (i : Nat) (X : Nat → Prop) : setZ Z i X i = X := if_pos rfl
theorem setZ_other (Z : Nat → Nat → Prop) {i j : Nat} (X : Nat → Prop) (h : j ≠ i) : setZ Z i X j = Z j := if_neg h
end Go.Proofs.YtaoegcakefodaaaGreat

namespace Go.Proofs.YtaoegcakefodaaaGreat
open Go.RowKit Go.BigFrame LosWin
theorem firstB_none {f : List V → List V → Int} {os : List (Option (List V))} {a b : Nat} (h : os[a]? = some none) : firstB f os a b = false := by
  unfold firstB
  rw [h]
  rfl
theorem firstB_one {f : List V → List V → Int} {os : List (Option (List V))} {a b : Nat} {q : List V} (h : os[a]? = some (some q)) (h2 : os[b]? = some none) : firstB f os a b = true := by
  unfold firstB
  rw [h, h2]
  rfl
theorem firstB_both {f : List V → List V → Int} {os : List (Option (List V))} {a b : Nat} {q r : List V} (h : os[a]? = some (some q)) (h2 : os[b]? = some (some r)) : firstB f os a b = (decide (f q r < 0) || (decide (f q r = 0) && decide (a < b))) := by
  unfold firstB
  rw [h, h2]
  rfl
theorem firstB_three {f : List V → List V → Int} {os : List (Option (List V))} {a b : Nat} {q r : List V} (h : os[a]? = some (some q)) (h2 : os[b]? = some (some r)) : (f q r < 0 → firstB f os a b = true) ∧ (f q r = 0 → a < b → firstB f os a b = true) ∧ (¬ f q r < 0 → ¬ (f q r = 0 ∧ a < b) → firstB f os a b = false) := by
  rw [firstB_both h h2]
  refine ⟨fun h => by simp [h], fun h h' => by simp [h, h'], fun h h' => ?_⟩
  simp only [Bool.or_eq_false_iff, decide_eq_false_iff_not, Bool.and_eq_false_iff]
  refine ⟨h, ?_⟩
  by_cases h3 : f q r = 0
  · exact .inr fun h4 => h' ⟨h3, h4⟩
  · exact .inl h3
theorem Bump.inc (n : Int) : Bump n (wrap64 (n + 1)) 1 := fun h0 h1 => by
  unfold wrap64
  omega
set_option maxRecDepth 100000 in
set_option maxHeartbeats 4000000 in
theorem pFirst16_any (B : Nat) (O : Nat → Prop) (t : Nat) (K HV LV : Value) (hs : List Value) (os : List (Option (List V))) (lost : List Nat) (ks : List Ky) (n : Int) (w : World) (a b : Nat) (h : TM B O w t K HV LV hs os lost ks n) (ha : a < os.length) (hb : b < os.length) (_hm : os.length ≤ 1000000) :
    Calls Tryz.prog 151 #[.pointer (some ⟨t, 0, none⟩), .int .i64 a, .int .i64 b] w fun e w' => e = .returned (.bool (firstB (cmpR ks) os a b)) ∧ OnlyS (Wr t HV LV) w w' ∧ ∃ n', TM B O w' t K HV LV hs os lost ks n' ∧ Bump n n' 1 := by
  obtain ⟨g, c, va, hHV, hc1, hc2, -, -, hoa, cA, -, hgt, -⟩ := h.head ha
  obtain ⟨g', c', vb, hHV', -, -, -, -, hob, cB, -, -, -⟩ := h.head hb
  have hgg : g = g' ∧ c = c' := by
    rw [hHV'] at hHV
    injection hHV with e1 e2 e3
    injection e1 with e1
    injection e1 with e1 e4
    exact ⟨e1.symm, e3.symm⟩
  obtain ⟨rfl, rfl⟩ := hgg
  clear hHV'
  subst hHV
  have c1 := h.blk.cell 1 _ rfl
  have c3 := h.blk.cell 3 _ rfl
  have f3 := h.blk.free 3
  have HT := Lib.hid h
  obtain ⟨a1, a2, a3, rfl⟩ := hoa.opt.shape
  obtain ⟨b1, b2, b3, rfl⟩ := hob.opt.shape
  have qa : ∀ w, (binOp BinOp.eql 58 (.slice a1 a2 a3) (.slice none 0 0)).run Tryz.prog w = .ok (.bool a1.isNone) w := fun w => Lib.run_eql_slice_nil w _ _ a1 a2 a3 0 0 Tryz.underlying58
  have qa' : ∀ w, (binOp BinOp.neq 58 (.slice a1 a2 a3) (.slice none 0 0)).run Tryz.prog w = .ok (.bool (!a1.isNone)) w := fun w => Go.run_neq_slice_nil w _ _ a1 a2 a3 Tryz.underlying58
  have qb : ∀ w, (binOp BinOp.eql 58 (.slice b1 b2 b3) (.slice none 0 0)).run Tryz.prog w = .ok (.bool b1.isNone) w := fun w => Lib.run_eql_slice_nil w _ _ b1 b2 b3 0 0 Tryz.underlying58
  have hga : os[a]? = some os[a] := List.getElem?_eq_getElem ha
  have hgb : os[b]? = some os[b] := List.getElem?_eq_getElem hb
  have HGA := Lib.hid hga
  have HGB := Lib.hid hgb
  have HOA := Lib.hid hoa
  have HOB := Lib.hid hob
  unfold maxLen at hc2
  have HFT := Lib.hid h.fit
  clear h hoa hob hga hgb
  generalize os[a] = oa at HGA HOA
  generalize os[b] = ob at HGB HOB
  cases oa with
  | none =>
    have e : Value.slice a1 a2 a3 = .slice none 0 0 := HOA.out
    simp only [Value.slice.injEq] at e
    obtain ⟨rfl, rfl, rfl⟩ := e
    rw [firstB_none HGA.out]
    simp only [Option.isNone_none, Bool.not_true] at qa qa'
    go_enter Tryz.func151, Tryz.ntmps151
    go_wp2_with fail
    go_ret
    exact ⟨rfl, OnlyS.refl _ _, n, HT.out, (Bump.refl n).mono (by decide)⟩
  | some q =>
    have ha1 : ∃ x, a1 = some x := by
      obtain ⟨ad, x, y, e⟩ := HOA.out.opt.2
      simp only [Value.slice.injEq] at e
      exact ⟨ad, e.1⟩
    obtain ⟨xa, rfl⟩ := ha1
    simp only [Option.isNone_some, Bool.not_false] at qa qa'
    cases ob with
    | none =>
      have e : Value.slice b1 b2 b3 = .slice none 0 0 := HOB.out
      simp only [Value.slice.injEq] at e
      obtain ⟨rfl, rfl, rfl⟩ := e
      rw [firstB_one HGA.out HGB.out]
      simp only [Option.isNone_none] at qb
      go_enter Tryz.func151, Tryz.ntmps151
      go_wp2_with fail
      go_ret
      exact ⟨rfl, OnlyS.refl _ _, n, HT.out, (Bump.refl n).mono (by decide)⟩
    | some r =>
      have hb1 : ∃ x, b1 = some x := by
        obtain ⟨ad, x, y, e⟩ := HOB.out.opt.2
        simp only [Value.slice.injEq] at e
        exact ⟨ad, e.1⟩
      obtain ⟨xb, rfl⟩ := hb1
      simp only [Option.isNone_some] at qb
      have HZ := Lib.hid (firstB_three (f := cmpR ks) HGA.out HGB.out)
      generalize firstB (cmpR ks) os a b = Z at HZ ⊢
      have HAS := Lib.hid (HT.out.asked (wrap64 (n + 1)))
      obtain ⟨K0, kc, hK⟩ : ∃ k1 k3, K = .slice k1 ks.length k3 := by
        obtain ⟨x, y, e, -, -⟩ := HT.out.keys.1.shape
        exact ⟨x, y, e⟩
      have HKK := Lib.hid hK
      have HCMP := Lib.hid (fun W (hW : Ext (w.setCell ⟨t, 3, none⟩ (.int .i64 (wrap64 (n + 1)))) W) => pCompare15_any (.slice (some xa) a2 a3) (.slice (some xb) b2 b3) K q r ks W
        (((HOA.out.others (Y := fun k => k = t) (only_setL t 3 w (.int .i64 (wrap64 (n + 1)))) (fun k hk e => HOA.out.apartB HT.out.blk (by decide) (e ▸ hk))).opt.1).mono hW)
        (((HOB.out.others (Y := fun k => k = t) (only_setL t 3 w (.int .i64 (wrap64 (n + 1)))) (fun k hk e => HOB.out.apartB HT.out.blk (by decide) (e ▸ hk))).opt.1).mono hW)
        (HAS.out.1.keys.1.mono hW) (HFT.out q (List.mem_of_getElem? HGA.out)) (HFT.out r (List.mem_of_getElem? HGB.out)))
      have k0 := HAS.out.1.blk.cell 0 _ rfl
      have k1 := HAS.out.1.blk.cell 1 _ rfl
      have kA := (cell_set_other (w := w) (g := t) (i := 3) (j := a) (b := g) (u := .int .i64 (wrap64 (n + 1))) (.inl hgt)).trans cA
      have kB := (cell_set_other (w := w) (g := t) (i := 3) (j := b) (b := g) (u := .int .i64 (wrap64 (n + 1))) (.inl hgt)).trans cB
      subst hK
      generalize hw1 : w.setCell ⟨t, 3, none⟩ (.int .i64 (wrap64 (n + 1))) = w1 at HAS HCMP k0 k1 kA kB
      have z0 : ∀ z : Later Ext w1.drew, z.val.cell? ⟨t, 0, none⟩ = some (.slice K0 ks.length kc) := fun z => ((Ext.trans (Ext.drew w1) z.ext).cell (lt_of_cell k0)).trans k0
      have z1 : ∀ z : Later Ext w1.drew, z.val.cell? ⟨t, 1, none⟩ = some (.slice (some ⟨g, 0, none⟩) os.length c) := fun z => ((Ext.trans (Ext.drew w1) z.ext).cell (lt_of_cell k1)).trans k1
      have zA : ∀ z : Later Ext w1.drew, z.val.cell? ⟨g, a, none⟩ = some (.slice (some xa) a2 a3) := fun z => ((Ext.trans (Ext.drew w1) z.ext).cell (lt_of_cell kA)).trans kA
      have zB : ∀ z : Later Ext w1.drew, z.val.cell? ⟨g, b, none⟩ = some (.slice (some xb) b2 b3) := fun z => ((Ext.trans (Ext.drew w1) z.ext).cell (lt_of_cell kB)).trans kB
      clear k0 k1 kA kB
      generalize cmpR ks q r = C at HCMP HZ
      go_enter Tryz.func151, Tryz.ntmps151
      go_wp2_with fail
      refine wp_region_segs Ext Ext.keeps [([0, 1, 2, 3, 4, 5, 6, 7, 8, 9, 10, 11, 12, 13, 14, 15, 16, 17], some 18), ([19], none)] (by kernel_rfl) (by kernel_rfl) (fun c a a' w e h => (by exact ⟨e ▸ h.1, h.2⟩)) ?_
      simp only [pickSegs, pickOps, List.map_cons, List.map_nil, Option.map_some, Option.map_none, Option.getD_some, List.getElem?_toArray, List.getElem?_cons_zero, List.getElem?_cons_succ]
      refine wpSegs_some fun K' hK' => ?_
      repeat go_big_quiet_step (fail)
      refine wpQuiet_nil ?_
      clear z0 z1 zA zB
      go_wp2_with fail
      refine (HCMP.out w1.drew (Ext.drew w1)).mono ?_
      rintro e w2 ⟨rfl, x2⟩
      have HX2 := Lib.hid x2
      clear x2
      go_wp2_with fail
      refine ⟨HX2.out, hK' _ _ ?_⟩
      clear hK' K'
      refine wpSegs_none ?_
      repeat go_big_quiet_step (fail)
      refine wpQuiet_nil (wpSegs_nil ?_)
      have HXD := Lib.hid (Ext.trans (Ext.drew w1) HX2.out)
      have HFIN := Lib.hid (HAS.out.1.ext HXD.out)
      have HOF := Lib.hid (HAS.out.2.trans (OnlyS.of_ext (X := Wr t (.slice (some ⟨g, 0, none⟩) os.length c) LV) HXD.out) (fun _ _ h => h))
      by_cases hC : C < 0
      · have d1 : decide (C < 0) = true := decide_eq_true hC
        obtain rfl : Z = true := HZ.out.1 hC
        go_wp2_with fail
        go_ret
        exact ⟨rfl, HOF.out, _, HFIN.out, Bump.inc n⟩
      · have d1 : decide (C < 0) = false := decide_eq_false hC
        by_cases hC0 : C = 0
        · have d2 : decide (C = 0) = true := decide_eq_true hC0
          have d2' : (C == 0) = true := by simpa using hC0
          by_cases hab : a < b
          · have d3 : decide ((a : Int) < (b : Int)) = true := decide_eq_true (by omega)
            have d3' : decide (a < b) = true := decide_eq_true hab
            obtain rfl : Z = true := HZ.out.2.1 hC0 hab
            clear hC hC0
            go_wp2_with fail
            go_ret
            exact ⟨rfl, HOF.out, _, HFIN.out, Bump.inc n⟩
          · have d3 : decide ((a : Int) < (b : Int)) = false := decide_eq_false (by omega)
            have d3' : decide (a < b) = false := decide_eq_false hab
            obtain rfl : Z = false := HZ.out.2.2 (by omega) (by omega)
            clear hC hC0
            go_wp2_with fail
            go_ret
            exact ⟨rfl, HOF.out, _, HFIN.out, Bump.inc n⟩
        · have d2 : decide (C = 0) = false := decide_eq_false hC0
          have d2' : (C == 0) = false := by simpa using hC0
          obtain rfl : Z = false := HZ.out.2.2 (by omega) (by omega)
          clear hC hC0
          go_wp2_with fail
          go_ret
          exact ⟨rfl, HOF.out, _, HFIN.out, Bump.inc n⟩
end Go.Proofs.YtaoegcakefodaaaGreat

namespace Go.Proofs.YtaoegcakefodaaaGreat
open Go.RowKit Go.BigFrame LosWin
set_option maxRecDepth 100000 in
set_option maxHeartbeats 1000000 in
theorem pMatch16_any (B : Nat) (O : Nat → Prop) (t : Nat) (K HV LV : Value) (hs : List Value) (os : List (Option (List V))) (lost : List Nat) (ks : List Ky) (n : Int) (w : World) (a b : Nat) (h : TM B O w t K HV LV hs os lost ks n) (ha : a < os.length) (hb : b < os.length) (hm : os.length ≤ 1000000) :
    Calls Tryz.prog 135 #[.pointer (some ⟨t, 0, none⟩), .int .i64 a, .int .i64 b] w fun e w' => e = .returned (.tuple #[.int .i64 (winB (cmpR ks) os a b : Nat), .int .i64 (losB (cmpR ks) os a b : Nat)]) ∧ OnlyS (Wr t HV LV) w w' ∧ ∃ n', TM B O w' t K HV LV hs os lost ks n' ∧ Bump n n' 1 := by
  have HF := Lib.hid (pFirst16_any B O t K HV LV hs os lost ks n w a b h ha hb hm)
  unfold winB losB
  generalize firstB (cmpR ks) os a b = Z at HF ⊢
  clear h
  go_enter Tryz.func135, Tryz.ntmps135
  go_wp2_with fail
  refine HF.out.mono ?_
  rintro e w1 ⟨rfl, ho, n', ht, hbm⟩
  have HO := Lib.hid ho
  have HT := Lib.hid ht
  have HB := Lib.hid hbm
  clear ho ht hbm
  cases Z with
  | true =>
    go_wp2_with fail
    go_ret2
    exact ⟨rfl, HO.out, n', HT.out, HB.out⟩
  | false =>
    go_wp2_with fail
    go_ret2
    exact ⟨rfl, HO.out, n', HT.out, HB.out⟩
set_option maxRecDepth 100000 in
set_option maxHeartbeats 4000000 in
theorem pPlay16_any (B : Nat) (O : Nat → Prop) (t : Nat) (K HV LV : Value) (hs : List Value) (os : List (Option (List V))) (ks : List Ky) (hm : os.length ≤ 16) : ∀ (k i : Nat) (lost : List Nat) (n : Int) (w : World), TM B O w t K HV LV hs os lost ks n → lost.length = os.length → 1 ≤ i → i < 2 * os.length → os.length ≤ i * 2 ^ k →
    Calls Tryz.prog 113 #[.pointer (some ⟨t, 0, none⟩), .int .i64 i] w fun e w' => e = .returned (.int .i64 (winF (cmpR ks) os i : Nat)) ∧ OnlyS (Wr t HV LV) w w' ∧ ∃ lost' n', TM B O w' t K HV LV hs os lost' ks n' ∧ lost'.length = os.length ∧ Bump n n' (cntN k os.length i) ∧ (∀ x, x < os.length → Anc i x → lost'[x]? = some (losF (cmpR ks) os x)) ∧ (∀ x, ¬ Anc i x → lost'[x]? = lost[x]?) := by
  intro k
  induction k with
  | zero =>
    intro i lost n w h hl h1 h2 hk
    rw [Nat.pow_zero, Nat.mul_one] at hk
    have c1 := h.blk.cell 1 _ rfl
    obtain ⟨ha, hc, rfl, hc1, hc2⟩ := own_shapeP h.hown
    unfold maxLen at hc2
    rw [winF_leaf hk]
    have HT := Lib.hid h
    have HL := Lib.hid hl
    have d1 : decide ((i : Int) ≥ (os.length : Int)) = true := decide_eq_true (by omega)
    have d1' : decide (os.length ≤ i) = true := decide_eq_true hk
    have e1 : ((i - os.length : Nat) : Int) = (i : Int) - (os.length : Int) := by omega
    rw [e1]
    have HA := Lib.hid (show ∀ x, x < os.length → ¬ Anc i x from fun x hx ha => by have := ha.le; omega)
    clear h hl
    go_enter Tryz.func113, Tryz.ntmps113
    go_wp2_with fail
    go_ret
    exact ⟨rfl, OnlyS.refl _ _, lost, n, HT.out, HL.out, Bump.refl n, fun x hx ha => absurd ha (HA.out x hx), fun x _ => rfl⟩
  | succ k ih =>
    intro i lost n w h hl h1 h2 hk
    by_cases hi : os.length ≤ i
    · have c1 := h.blk.cell 1 _ rfl
      obtain ⟨ha, hc, rfl, hc1, hc2⟩ := own_shapeP h.hown
      unfold maxLen at hc2
      rw [winF_leaf hi]
      have HT := Lib.hid h
      have HL := Lib.hid hl
      have HIH := Lib.hid ih
      have d1 : decide ((i : Int) ≥ (os.length : Int)) = true := decide_eq_true (by omega)
      have d1' : decide (os.length ≤ i) = true := decide_eq_true hi
      have e1 : ((i - os.length : Nat) : Int) = (i : Int) - (os.length : Int) := by omega
      rw [e1]
      have HA := Lib.hid (show ∀ x, x < os.length → ¬ Anc i x from fun x hx ha => by have := ha.le; omega)
      clear h hl ih hk
      go_enter Tryz.func113, Tryz.ntmps113
      go_wp2_with fail
      go_ret
      exact ⟨rfl, OnlyS.refl _ _, lost, n, HT.out, HL.out, (Bump.refl n).mono (Nat.zero_le _), fun x hx ha => absurd ha (HA.out x hx), fun x _ => rfl⟩
    · have hi' : i < os.length := by omega
      have c1 := h.blk.cell 1 _ rfl
      have IH1 := ih (2 * i) lost n w h hl (by omega) (by omega) (by rw [Nat.pow_succ] at hk; rw [Nat.mul_comm 2 i, Nat.mul_assoc, Nat.mul_comm 2]; exact hk)
      have IH2 := fun (lost : List Nat) (n : Int) (w : World) (h : TM B O w t K HV LV hs os lost ks n) (hl : lost.length = os.length) => ih (2 * i + 1) lost n w h hl (by omega) (by omega) (by
        rw [Nat.pow_succ] at hk
        refine Nat.le_trans hk ?_
        rw [Nat.mul_comm (2 ^ k) 2, ← Nat.mul_assoc, Nat.mul_comm i 2]
        exact Nat.mul_le_mul_right _ (by omega))
      rw [show ((2 * i : Nat) : Int) = 2 * (i : Int) by omega] at IH1
      simp only [show ((2 * i + 1 : Nat) : Int) = 2 * (i : Int) + 1 by omega] at IH2
      rw [winF_node h1 hi']
      have hcn : cntN (k + 1) os.length i = 1 + cntN k os.length (2 * i) + cntN k os.length (2 * i + 1) := by
        show (if os.length ≤ i then 0 else 1 + cntN k os.length (2 * i) + cntN k os.length (2 * i + 1)) = _
        rw [if_neg hi]
      rw [hcn]
      have hA := winF_lt (f := cmpR ks) (os := os) _ (2 * i) rfl (by omega) (by omega)
      have hB := winF_lt (f := cmpR ks) (os := os) _ (2 * i + 1) rfl (by omega) (by omega)
      have hlf : losF (cmpR ks) os i = losB (cmpR ks) os (winF (cmpR ks) os (2 * i)) (winF (cmpR ks) os (2 * i + 1)) := rfl
      have HLF := Lib.hid hlf
      generalize cntN k os.length (2 * i) = n1 at IH1 ⊢
      generalize cntN k os.length (2 * i + 1) = n2 at IH2 ⊢
      generalize winF (cmpR ks) os (2 * i) = wa at IH1 hA HLF ⊢
      generalize winF (cmpR ks) os (2 * i + 1) = wb at IH2 hB HLF ⊢
      have HM := Lib.hid (fun (lost : List Nat) (n : Int) (w : World) (h : TM B O w t K HV LV hs os lost ks n) => pMatch16_any B O t K HV LV hs os lost ks n w wa wb h hA hB (by omega))
      generalize winB (cmpR ks) os wa wb = Wn at HM ⊢
      generalize losB (cmpR ks) os wa wb = L at HM HLF
      have HI1 := Lib.hid IH1
      have HI2 := Lib.hid IH2
      have HHS := Lib.hid h.hown
      obtain ⟨ha, hc, rfl, hc1, hc2⟩ := own_shapeP h.hown
      unfold maxLen at hc2
      have d1 : decide ((i : Int) ≥ (os.length : Int)) = false := decide_eq_false (by omega)
      have d1' : decide (os.length ≤ i) = false := decide_eq_false hi
      have hi16 : i < 16 := by omega
      clear h hl ih hk IH1 IH2 hlf hcn
      go_enter Tryz.func113, Tryz.ntmps113
      go_wp2_with fail
      refine HI1.out.mono ?_
      rintro e w1 ⟨rfl, ho1, lost1, m1, ht1, hl1, hb1, hx1, hy1⟩
      have HT1 := Lib.hid ht1
      have HO1 := Lib.hid ho1
      have HL1 := Lib.hid hl1
      have HB1 := Lib.hid hb1
      have HX1 := Lib.hid hx1
      have HY1 := Lib.hid hy1
      clear ho1 ht1 hl1 hb1 hx1 hy1
      go_wp2_with fail
      refine (HI2.out lost1 m1 w1 HT1.out HL1.out).mono ?_
      rintro e w2 ⟨rfl, ho2, lost2, m2, ht2, hl2, hb2, hx2, hy2⟩
      have HT2 := Lib.hid ht2
      have HO2 := Lib.hid ho2
      have HL2 := Lib.hid hl2
      have HB2 := Lib.hid hb2
      have HX2 := Lib.hid hx2
      have HY2 := Lib.hid hy2
      clear ho2 ht2 hl2 hb2 hx2 hy2
      go_wp2_with fail
      refine (HM.out lost2 m2 w2 HT2.out).mono ?_
      rintro e w3 ⟨rfl, ho3, m3, ht3, hb3⟩
      obtain ⟨g, lc, hLV, hlc1, hlc2, -, cL, fL, -, hst⟩ := ht3.loses (i := i) (by rw [HL2.out]; exact hi')
      have c2 := ht3.blk.cell 2 _ rfl
      have HST := Lib.hid (hst L)
      have HO3 := Lib.hid ho3
      have HB3 := Lib.hid hb3
      rw [HL2.out] at hLV hlc1
      have hli : ((i : Int)) < (os.length : Int) := by omega
      unfold maxLen at hlc2
      subst hLV
      generalize lost2[i]'_ = Y at cL
      clear ho3 ht3 hb3 hst
      go_wp2_with fail
      go_ret
      refine ⟨rfl, ((HO1.out.trans HO2.out (fun _ _ h => h)).trans HO3.out (fun _ _ h => h)).trans HST.out.2 (fun _ _ h => h), lost2.set i L, m3, HST.out.1, by rw [List.length_set]; exact HL2.out, ((HB1.out.trans HB2.out).trans HB3.out).mono (by omega), fun x hx ha => ?_, fun x ha => ?_⟩
      · rcases ha.child with e | ⟨y, hy, hyi⟩
        · subst e
          rw [List.getElem?_set_self (by rw [HL2.out]; exact hx), HLF.out]
        · have hxi : i ≠ x := fun e => by
            have := hy.le
            omega
          rw [List.getElem?_set_ne hxi]
          by_cases hyo : y = 2 * i + 1
          · subst hyo
            exact HX2.out x hx hy
          · have hy2 : y = 2 * i := by omega
            subst hy2
            rw [HY2.out x (fun h => hyo (hy.only h (by omega) (by omega)))]
            exact HX1.out x hx hy
      · have hxi : i ≠ x := fun e => ha (e ▸ Anc.self x)
        rw [List.getElem?_set_ne hxi, HY2.out x (fun h => ha (by have := (Anc.self (2 * i + 1)).half.trans h; rwa [show (2 * i + 1) / 2 = i by omega] at this)), HY1.out x (fun h => ha (by have := (Anc.self (2 * i)).half.trans h; rwa [show 2 * i / 2 = i by omega] at this))]
end Go.Proofs.YtaoegcakefodaaaGreat

namespace Go.Proofs.YtaoegcakefodaaaGreat
open Go.RowKit Go.BigFrame LosWin
def TF (B : Nat) (O : Nat → Prop) (w : World) (t : Nat) (K HV LV : Value) (hs : List Value) (os : List (Option (List V))) (lost : List Nat) (ks : List Ky) (n : Int) : Prop := TM B O w t K HV LV hs os lost ks n ∧ os.length ≤ 16 ∧ ∃ W, Full (cmpR ks) os lost W
theorem mat_of {f : List V → List V → Int} (hf : OrdPure.Pre f) {os : List (Option (List V))} {a b x y : Nat} (hx : winB f os a b = x) (hy : losB f os a b = y) : Mat f os a b x y := by
  rw [← hx, ← hy]
  exact mat_first hf os a b
def Stay (t : Nat) (w w' : World) : Prop := ∀ u, w.cell? ⟨t, 2, none⟩ = some u → w'.cell? ⟨t, 2, none⟩ = some u
theorem Stay.keeps (t : Nat) : Keeps (Stay t) := ⟨fun _ _ h => h, fun _ _ _ h k u hu => k u (h u hu)⟩
instance (t : Nat) (w : World) : Inhabited (Later (Stay t) w) := ⟨⟨w, fun _ h => h⟩⟩
set_option maxRecDepth 100000 in
set_option maxHeartbeats 4000000 in
theorem pReplace16_any (B : Nat) (O : Nat → Prop) (t : Nat) (K HV LV : Value) (hs : List Value) (os : List (Option (List V))) (lost : List Nat) (ks : List Ky) (n : Int) (i : Nat) (u : Value) (o : Option (List V)) (w : World) (h : TF B O w t K HV LV hs os lost ks n) (hi : 0 < os.length) (h0 : lost[0]? = some i) (hu : OptO B O w u o) (hf : ∀ r, o = some r → FitR 5000 r) :
    Calls Tryz.prog 114 #[.pointer (some ⟨t, 0, none⟩), .int .i64 i, u] w fun e w' => e = .returned (.tuple #[]) ∧ OnlyS (Wr t HV LV) w w' ∧ ∃ lost' n', TF B O w' t K HV LV (hs.set i u) (os.set i o) lost' ks n' ∧ ∀ k : Nat, os.length ≤ 2 ^ k → Bump n n' k := by
  obtain ⟨hT, hm, W, hF⟩ := h
  have hiW : W 1 = i := by
    have := hF.top hi
    rw [h0] at this
    exact (Option.some.inj this).symm
  have hil : i < os.length := by rw [← hiW]; exact (hF.loc _ 1 rfl (by omega) (by omega)).2
  obtain ⟨hg, hc, hv, hHV, hc1, hc2, -, -, -, cH, fH, hgt, hset⟩ := hT.head hil
  have c1 := hT.blk.cell 1 _ rfl
  have HST := Lib.hid (hset u o hu hf)
  have HUP := Lib.hid (hF.start hi o)
  rw [hiW] at HUP
  obtain ⟨ua, ul, uc, rfl⟩ := hu.opt.shape
  have HPRE := Lib.hid (cmpR_pre ks)
  unfold maxLen at hc2
  subst hHV
  have HLW := Lib.hid hF.len
  have d0 : decide (((i : Int) + (os.length : Int)) / 2 < 0) = false := decide_eq_false (by omega)
  clear hT hF hset hu hf hiW h0
  go_enter Tryz.func114, Tryz.ntmps114
  go_wp2_with fail
  go_loopw [6, 7] (fun x m wr => ∃ (c wi s q : Nat) (lost' : List Nat) (n' : Int) (W : Nat → Nat), m = .int .i64 (q : Nat) ∧ x = .int .i64 (wi : Nat) ∧ q = c / 2 ∧ TM B O wr t K (.slice (some ⟨hg, 0, none⟩) os.length hc) LV (hs.set i (.slice ua ul uc)) (os.set i o) lost' ks n' ∧ OnlyS (Wr t (.slice (some ⟨hg, 0, none⟩) os.length hc) LV) w wr ∧ Up (cmpR ks) (os.set i o) lost' W c wi ∧ 1 ≤ c ∧ c < 2 * os.length ∧ c * 2 ^ s ≤ i + os.length ∧ Bump n n' s) (fun _ m _ => (intOf m).toNat)
  case atStart => exact ⟨i + os.length, i, 0, (i + os.length) / 2, lost, n, W, by go_num, rfl, rfl, HST.out.1, HST.out.2, HUP.out, by omega, by omega, by omega, Bump.refl n⟩
  case round =>
    obtain ⟨c, wi, s, q, lost', n', W', rfl, rfl, hq, ht, ho, hup, hc1', hc2', hcs, hb⟩ := hrel
    have HO := Lib.hid ho
    have HU := Lib.hid hup
    have HB := Lib.hid hb
    have HT := Lib.hid ht
    have HCS := Lib.hid hcs
    have HQ := Lib.hid hq
    have hol : (os.set i o).length = os.length := List.length_set
    have HOL := Lib.hid hol
    have hlw := hup.len
    clear ho hb hcs hq hol HST HUP
    by_cases hlt : 0 < q
    · have hql : q < lost'.length := by have := HQ.out; have := HOL.out; omega
      obtain ⟨g, lc, hLV, hlc1, hlc2, -, cL, fL, hgt2, hst⟩ := ht.loses hql
      have c2 := ht.blk.cell 2 _ rfl
      have hlen : lost'.length = os.length := by rw [hlw, HOL.out]
      rw [hlen] at hLV hlc1
      subst hLV
      have hb := HU.out.llt q _ (List.getElem?_eq_getElem hql)
      have hGL : lost'[q]? = some lost'[q] := List.getElem?_eq_getElem hql
      generalize lost'[q] = b at cL hb hGL
      have HGL := Lib.hid hGL
      have hwl := HU.out.wlt
      have HM := Lib.hid (fun (w : World) (h : TM B O w t K (.slice (some ⟨hg, 0, none⟩) os.length hc) (.slice (some ⟨g, 0, none⟩) os.length lc) (hs.set i (.slice ua ul uc)) (os.set i o) lost' ks n') => pMatch16_any B O t K _ _ _ (os.set i o) lost' ks n' w wi b h hwl hb (by rw [HOL.out]; omega))
      have HMT := Lib.hid (fun x y => mat_of (a := wi) (b := b) (x := x) (y := y) HPRE.out (os := os.set i o))
      generalize winB (cmpR ks) (os.set i o) wi b = x at HM HMT
      generalize losB (cmpR ks) (os.set i o) wi b = y at HM HMT
      have HMT2 := Lib.hid (HMT.out x y rfl rfl)
      have z2 : ∀ z : Later (Stay t) wr.drew, z.val.cell? ⟨t, 2, none⟩ = some (.slice (some ⟨g, 0, none⟩) os.length lc) := fun z => z.ext _ (((Ext.drew wr).cell (lt_of_cell c2)).trans c2)
      have cL' : wr.drew.cell? ⟨g, q, none⟩ = some (.int .i64 (b : Nat)) := ((Ext.drew wr).cell (lt_of_cell cL)).trans cL
      have hqo : q < os.length := by omega
      have HTD := Lib.hid (ht.ext (Ext.drew wr))
      unfold maxLen at hlc2
      clear ht hup hst hGL hql hlen HMT c2 cL
      go_wp2_with fail
      refine wp_region_segs (Stay t) (Stay.keeps t) [([0, 1, 2, 3, 4, 5, 6, 7, 8, 9, 10, 11, 12], some 13), ([], some 14), ([15, 16, 17, 18, 19], some 20)] (by kernel_rfl) (by kernel_rfl) (fun c a a' w e h => (by exact ⟨e ▸ h.1, h.2⟩)) ?_
      simp only [pickSegs, pickOps, List.map_cons, List.map_nil, Option.map_some, Option.getD_some, List.getElem?_toArray, List.getElem?_cons_zero, List.getElem?_cons_succ]
      refine wpSegs_some fun K' hK' => ?_
      repeat go_big_quiet_step (fail)
      refine wpQuiet_nil ?_
      clear z2
      go_wp2_with fail
      refine ⟨(Stay.keeps t).refl _, hK' _ _ ?_⟩
      clear hK' K'
      refine wpSegs_some fun K' hK' => ?_
      refine wpQuiet_nil ?_
      go_wp2_with fail
      refine (HM.out wr.drew HTD.out).mono ?_
      rintro e w2 ⟨rfl, ho2, n2, ht2, hb2⟩
      have HO2 := Lib.hid ho2
      have HT2 := Lib.hid ht2
      have HB2 := Lib.hid hb2
      clear ho2 ht2 hb2
      go_wp2_with fail
      refine ⟨fun u hu => ?_, hK' _ _ ?_⟩
      · have h1 := HTD.out.blk.cell 2 _ rfl
        rw [hu] at h1
        rw [HT2.out.blk.cell 2 _ rfl, h1]
      clear hK' K'
      obtain ⟨g', lc', e', -, -, -, cL2, fL2, -, hst2⟩ := HT2.out.loses (i := q) (by rw [hlw, HOL.out]; exact hqo)
      have hg' : g = g' := by
        injection e' with e1
        injection e1 with e1
        injection e1
      subst hg'
      have HST2 := Lib.hid (hst2 y)
      obtain ⟨W2, hW2⟩ := HU.out.step (q := q) HPRE.out HQ.out.symm (by omega) (by rw [HOL.out]; exact hc2') HGL.out HMT2.out
      have HU2 := Lib.hid hW2
      have HCS2 := Lib.hid (show q * 2 ^ (s + 1) ≤ i + os.length from by
        refine Nat.le_trans ?_ HCS.out
        rw [Nat.pow_succ, Nat.mul_comm (2 ^ s) 2, ← Nat.mul_assoc]
        exact Nat.mul_le_mul_right _ (by have := HQ.out; omega))
      have HBB := Lib.hid (HB.out.trans HB2.out)
      clear hst2 hW2 e'
      refine wpSegs_some fun K' hK' => ?_
      repeat go_big_quiet_step (fail)
      refine wpQuiet_nil ?_
      go_wp2_with fail
      refine ⟨fun u hu => (cell_set_other (.inl (Ne.symm hgt2))).trans hu, hK' _ _ ?_⟩
      clear hK' K' cL2
      refine wpSegs_nil ?_
      go_wp2_with fail
      go_roundw
      case rel => exact ⟨q, x, s + 1, q / 2, lost'.set q y, n2, W2, by go_num, rfl, rfl, HST2.out.1, (HO.out.trans ((OnlyS.of_ext (Ext.drew wr)).trans HO2.out (fun _ _ h => h)) (fun _ _ h => h)).trans HST2.out.2 (fun _ _ h => h), HU2.out, by omega, by omega, HCS2.out, HBB.out⟩
      case measure => simp [intOf]; omega
    · have hc1x : c / 2 = 0 := by have := HQ.out; omega
      have h0l : 0 < lost'.length := by rw [hlw, HOL.out]; exact hi
      obtain ⟨g, lc, hLV, hlc1, hlc2, -, cL, fL, hgt2, hst⟩ := ht.loses h0l
      have c2 := ht.blk.cell 2 _ rfl
      rw [hlw, HOL.out] at hLV hlc1
      subst hLV
      have HST2 := Lib.hid (hst wi)
      have HU2 := Lib.hid (HU.out.full hc1x hc1')
      generalize lost'[0] = y at cL
      unfold maxLen at hlc2
      have h0o : (0 : Int) < (os.length : Int) := by omega
      have HKB := Lib.hid (show ∀ k : Nat, os.length ≤ 2 ^ k → Bump n n' k from fun k hk => HB.out.mono (by
        have h1 := HCS.out
        rcases Nat.lt_or_ge k s with hks | hks
        · exfalso
          have h2 : 2 ^ (k + 1) ≤ 2 ^ s := Nat.pow_le_pow_right (by decide) hks
          have h3 : 2 ^ s ≤ c * 2 ^ s := Nat.le_mul_of_pos_left _ (by omega)
          rw [Nat.pow_succ] at h2
          omega
        · exact hks))
      clear ht hst h0l hc1x
      go_wp2_with fail
      go_end0
      refine ⟨rfl, HO.out.trans HST2.out.2 (fun _ _ h => h), lost'.set 0 wi, n', ⟨HST2.out.1, by rw [HOL.out]; exact hm, _, HU2.out⟩, HKB.out⟩
end Go.Proofs.YtaoegcakefodaaaGreat

namespace Go.Proofs.YtaoegcakefodaaaGreat
open Go.RowKit Go.BigFrame LosWin
set_option maxRecDepth 100000 in
set_option maxHeartbeats 1000000 in
theorem pCopied16_any (v : Value) (o : Option (List V)) (w : World) (hv : OptV w v o) (hl : ∀ r, o = some r → r.length ≤ 1000000) :
    Calls Tryz.prog 112 #[v] w fun e w' => (∃ u, e = .returned u ∧ OptO w.heap.size (fun k => w.heap.size ≤ k ∧ k < w'.heap.size) w' u o) ∧ Ext w w' := by
  cases o with
  | none =>
    obtain rfl : v = .slice none 0 0 := hv
    have hq : ∀ w, (binOp BinOp.eql 58 (.slice none 0 0) (.slice none 0 0)).run Tryz.prog w = .ok (.bool true) w := fun w => Lib.run_eql_slice_nil w _ _ none 0 0 0 0 Tryz.underlying58
    go_enter Tryz.func112, Tryz.ntmps112
    go_wp2_with fail
    go_ret
    exact ⟨⟨_, rfl, rfl⟩, Ext.keeps.refl _⟩
  | some r =>
    obtain ⟨hr, x, n, cap, rfl⟩ := hv
    have hl := hl r rfl
    have hq : ∀ w, (binOp BinOp.eql 58 (.slice (some x) n cap) (.slice none 0 0)).run Tryz.prog w = .ok (.bool false) w := fun w => Lib.run_eql_slice_nil w _ _ (some x) _ _ 0 0 Tryz.underlying58
    have HR := Lib.hid (hr.mono (ext_new w (.cells #[] 56)))
    have HL := Lib.hid (show ([] : List V).length + r.length ≤ 100000000 from by simp; omega)
    clear hr hl
    go_enter Tryz.func112, Tryz.ntmps112
    go_wp2_with (at_builtin; first
      | (refine wpList_append_valsN rfl (.tmp 5) (.tmp 6) 58 rfl Tryz.underlying58 w.heap.size _ ([] : List V) _ r rfl (empty_vals w) rfl HR.out HL.out (by simp) ?_
         intro v2 w2 hown2 hbel2 _ hnil2
         rw [List.nil_append] at hown2
         have HO2 := Lib.hid hown2
         have HB2 := Lib.hid hbel2
         have HN2 := Lib.hid (show v2 ≠ .slice none 0 0 from fun e => by have := (hnil2.1 e).1; cases this)
         clear hown2 hbel2 hnil2))
    go_ret
    exact ⟨⟨_, rfl, ⟨HO2.out, HN2.out⟩, fun k hk => HO2.out.lt k hk⟩, (show Below w.heap.size w _ from ext_new w _).trans HB2.out⟩
theorem TF.win {B : Nat} {O : Nat → Prop} {w : World} {t : Nat} {K HV LV : Value} {hs : List Value} {os : List (Option (List V))} {lost : List Nat} {ks : List Ky} {n : Int} (h : TF B O w t K HV LV hs os lost ks n) (h0 : 0 < os.length) :
    ∃ i, lost[0]? = some i ∧ i < os.length ∧ LosPure.nextS (cmpR ks) os = (if os[i]?.join.isSome then some i else none) := by
  obtain ⟨hT, hm, W, hF⟩ := h
  exact ⟨W 1, hF.top h0, (hF.loc _ 1 rfl (by omega) (by omega)).2, hF.next (cmpR_pre ks)⟩
set_option maxRecDepth 100000 in
set_option maxHeartbeats 4000000 in
theorem pNextT_any (B : Nat) (O : Nat → Prop) (t : Nat) (K HV LV : Value) (hs : List Value) (os : List (Option (List V))) (lost : List Nat) (ks : List Ky) (n : Int) (w : World) (h : TF B O w t K HV LV hs os lost ks n) :
    Calls Tryz.prog 89 #[.pointer (some ⟨t, 0, none⟩)] w fun e w' => e = .returned (.tuple #[.int .i64 (nextI ks os), .bool (nextB ks os)]) ∧ Ext w w' := by
  have c1 := h.1.blk.cell 1 _ rfl
  have c2 := h.1.blk.cell 2 _ rfl
  by_cases h0 : os.length = 0
  · obtain ⟨ha, hc, rfl, -, -⟩ := own_shapeP h.1.hown
    have hos : os = [] := List.eq_nil_of_length_eq_zero h0
    subst hos
    have z1 : ∀ z : Later Ext w.drew, z.val.cell? ⟨t, 1, none⟩ = some (.slice ha 0 hc) := fun z => ((Ext.trans (Ext.drew w) z.ext).cell (lt_of_cell c1)).trans c1
    have q0 : ((0 : Int) == 0) = true := rfl
    rw [show nextI ks [] = 0 from rfl, show nextB ks [] = false from rfl]
    clear h c1 c2 h0
    go_enter Tryz.func89, Tryz.ntmps89
    go_wp2_with fail
    refine wp_region_segs Ext Ext.keeps [(List.range 25, none)] (by kernel_rfl) (by kernel_rfl) (fun c a a' w e h => (by exact ⟨e ▸ h.1, h.2⟩)) ?_
    simp only [List.range, List.range.loop, pickSegs, pickOps, List.map_cons, List.map_nil, Option.map_none, Option.getD_some, List.getElem?_toArray, List.getElem?_cons_zero, List.getElem?_cons_succ]
    refine wpSegs_none ?_
    repeat go_big_quiet_step (fail)
    refine wpQuiet_nil (wpSegs_nil ?_)
    clear z1
    go_wp2_with fail
    go_ret2
    exact ⟨rfl, Ext.drew w⟩
  · obtain ⟨i, hl0, hil, hns⟩ := h.win (by omega)
    obtain ⟨g, lc, hLV, hlc1, hlc2, -, cL, -, -, -⟩ := h.1.loses (i := 0) ((List.getElem?_eq_some_iff.1 hl0).1)
    obtain ⟨hg, hc, hv, hHV, hc1, hc2, -, -, hvo, cH, -, -, -⟩ := h.1.head hil
    obtain ⟨v1, v2, v3, rfl⟩ := hvo.opt.shape
    have hle : lost[0]'((List.getElem?_eq_some_iff.1 hl0).1) = i := (List.getElem?_eq_some_iff.1 hl0).2
    rw [hle] at cL
    have hlen : lost.length = os.length := by
      obtain ⟨-, -, W, hF⟩ := h
      exact hF.len
    rw [hlen] at hLV hlc1
    subst hLV hHV
    have z1 : ∀ z : Later Ext w.drew, z.val.cell? ⟨t, 1, none⟩ = some (.slice (some ⟨hg, 0, none⟩) os.length hc) := fun z => ((Ext.trans (Ext.drew w) z.ext).cell (lt_of_cell c1)).trans c1
    have z2 : ∀ z : Later Ext w.drew, z.val.cell? ⟨t, 2, none⟩ = some (.slice (some ⟨g, 0, none⟩) os.length lc) := fun z => ((Ext.trans (Ext.drew w) z.ext).cell (lt_of_cell c2)).trans c2
    have zL : ∀ z : Later Ext w.drew, z.val.cell? ⟨g, 0, none⟩ = some (.int .i64 (i : Nat)) := fun z => ((Ext.trans (Ext.drew w) z.ext).cell (lt_of_cell cL)).trans cL
    have zH : ∀ z : Later Ext w.drew, z.val.cell? ⟨hg, i, none⟩ = some (.slice v1 v2 v3) := fun z => ((Ext.trans (Ext.drew w) z.ext).cell (lt_of_cell cH)).trans cH
    have d2 := ((Ext.drew w).cell (lt_of_cell c2)).trans c2
    have dL := ((Ext.drew w).cell (lt_of_cell cL)).trans cL
    have hq : ∀ w, (binOp BinOp.eql 58 (.slice v1 v2 v3) (.slice none 0 0)).run Tryz.prog w = .ok (.bool v1.isNone) w := fun w => Lib.run_eql_slice_nil w _ _ v1 v2 v3 0 0 Tryz.underlying58
    have q0 : (((os.length : Nat) : Int) == 0) = false := by simpa using h0
    have q0' : ((os.length : Nat) == 0) = false := by simpa using h0
    have hm := h.2.1
    have h0p : (0 : Int) < (os.length : Int) := by omega
    have hgo : os[i]? = some os[i] := List.getElem?_eq_getElem hil
    unfold maxLen at hc2 hlc2
    rw [hgo] at hns
    clear h c1 c2 cL cH hle hl0 hlen
    generalize os[i] = oi at hns hvo hgo
    have hNI : nextI ks os = (if oi.isSome then (i : Int) else 0) ∧ nextB ks os = oi.isSome := by
      unfold nextI nextB
      rw [hns]
      cases oi <;> exact ⟨rfl, rfl⟩
    rw [hNI.1, hNI.2]
    clear hNI hns hgo
    cases oi with
    | none =>
      have e : Value.slice v1 v2 v3 = .slice none 0 0 := hvo
      simp only [Value.slice.injEq] at e
      obtain ⟨rfl, rfl, rfl⟩ := e
      simp only [Option.isNone_none] at hq
      clear hvo
      simp only [Option.isSome_none, if_neg Bool.false_ne_true]
      go_enter Tryz.func89, Tryz.ntmps89
      go_wp2_with fail
      refine wp_region_segs Ext Ext.keeps [(List.range 25, none)] (by kernel_rfl) (by kernel_rfl) (fun c a a' w e h => (by exact ⟨e ▸ h.1, h.2⟩)) ?_
      simp only [List.range, List.range.loop, pickSegs, pickOps, List.map_cons, List.map_nil, Option.map_none, Option.getD_some, List.getElem?_toArray, List.getElem?_cons_zero, List.getElem?_cons_succ]
      refine wpSegs_none ?_
      repeat go_big_quiet_step (fail)
      refine wpQuiet_nil (wpSegs_nil ?_)
      clear z1 z2 zL zH
      go_wp2_with fail
      go_ret2
      exact ⟨rfl, Ext.drew w⟩
    | some r =>
      have hv1 : ∃ x, v1 = some x := by
        obtain ⟨ad, x, y, e⟩ := hvo.opt.2
        simp only [Value.slice.injEq] at e
        exact ⟨ad, e.1⟩
      obtain ⟨xv, rfl⟩ := hv1
      simp only [Option.isNone_some] at hq
      clear hvo
      simp only [Option.isSome_some, if_true]
      go_enter Tryz.func89, Tryz.ntmps89
      go_wp2_with fail
      refine wp_region_segs Ext Ext.keeps [(List.range 25, none)] (by kernel_rfl) (by kernel_rfl) (fun c a a' w e h => (by exact ⟨e ▸ h.1, h.2⟩)) ?_
      simp only [List.range, List.range.loop, pickSegs, pickOps, List.map_cons, List.map_nil, Option.map_none, Option.getD_some, List.getElem?_toArray, List.getElem?_cons_zero, List.getElem?_cons_succ]
      refine wpSegs_none ?_
      repeat go_big_quiet_step (fail)
      refine wpQuiet_nil (wpSegs_nil ?_)
      clear z1 z2 zL zH
      go_wp2_with fail
      go_ret2
      exact ⟨rfl, Ext.drew w⟩
end Go.Proofs.YtaoegcakefodaaaGreat

namespace Go.Proofs.YtaoegcakefodaaaGreat
open Go.RowKit Go.BigFrame
theorem Tryz.info_key : (Tryz.prog.info? 60).map (fun i => (i.zero, i.size, i.bytes)) = some (some (.agg #[.int .i64 0, .bool false]), 2, 16) := by kernel_rfl
theorem keyCells_length (l : List Ky) : (l.flatMap Ky.cells).length = l.length * 2 := by
  induction l with
  | nil => rfl
  | cons a t ih => rw [List.flatMap_cons, List.length_append, ih, List.length_cons]; simp only [Ky.cells, List.length_cons, List.length_nil]; omega
theorem keyCells : ∀ (l : List Ky) (j : Nat) (hj : j < l.length), (l.flatMap Ky.cells)[j * 2]? = some (.int .i64 l[j].col) ∧ (l.flatMap Ky.cells)[j * 2 + 1]? = some (.bool l[j].down) := by
  intro l
  induction l with
  | nil => intro j hj; simp at hj
  | cons a t ih =>
    intro j hj
    cases j with
    | zero => exact ⟨rfl, rfl⟩
    | succ j =>
      have h := ih j (by simpa using hj)
      have hc : a.cells.length = 2 := rfl
      rw [List.flatMap_cons, List.getElem?_append_right (by omega), List.getElem?_append_right (by omega), hc, show (j + 1) * 2 - 2 = j * 2 by omega, show (j + 1) * 2 + 1 - 2 = j * 2 + 1 by omega]
      exact h
theorem key_oneCell (l : List Ky) : ∀ y ∈ l.flatMap Ky.cells, y.oneCell' = true := fun y hy => by
  obtain ⟨k, -, hk⟩ := List.mem_flatMap.1 hy
  simp only [Ky.cells, List.mem_cons, List.not_mem_nil, or_false] at hk
  rcases hk with rfl | rfl <;> rfl
theorem RdKs.of_owns {base : Nat} {w : World} {v : Value} {l : List Ky} (h : w.ownsRow base 60 2 v l.length (l.flatMap Ky.cells)) : RdKs w v l := by
  rcases h.2 with ⟨rfl, h2⟩ | ⟨g, cap, cur, rfl, h3, h4, h5, h6, h7, h8⟩
  · have : l = [] := List.eq_nil_of_length_eq_zero h2
    subst this
    exact RdKs.nil w
  · refine ⟨_, cap, rfl, h5, h6, fun j hj => ⟨g, 0, rfl, ?_, ?_⟩, fun h => by cases h⟩
    · rw [Nat.zero_add, h.cellAt (j * 2) (by omega)]
      exact (keyCells l j hj).1
    · rw [Nat.zero_add, h.cellAt (j * 2 + 1) (by omega)]
      exact (keyCells l j hj).2
set_option maxRecDepth 100000 in
set_option maxHeartbeats 1000000 in
theorem cloneKeys_any (x : Value) (ks : List Ky) (w : World) (hx : RdKs w x ks) (hl : ks.length ≤ 1000000) :
    Calls Tryz.prog 111 #[x] w fun e w' => (∃ o, e = .returned o ∧ KyO (fun k => w.heap.size ≤ k ∧ k < w'.heap.size) w' o ks) ∧ Ext w w' := by
  obtain ⟨i0, hi, hz0, hz1, hz2⟩ := info_parts Tryz.info_key
  obtain ⟨ao, cap, rfl, h1, h2, hat, h0⟩ := hx
  cases ao with
  | none =>
    have hc0 := h0 rfl
    have hl0 : ks = [] := List.eq_nil_of_length_eq_zero (by omega)
    subst hl0
    subst hc0
    have hq : ∀ w, (binOp BinOp.eql 23 (.slice none 0 0) (.slice none 0 0)).run Tryz.prog w = .ok (.bool true) w := fun w => Lib.run_eql_slice_nil w _ _ none 0 0 0 0 Tryz.underlying23
    clear hat h0
    go_enter Tryz.func111, Tryz.ntmps111
    go_wp2_with fail
    go_ret
    exact ⟨⟨_, rfl, RdKs.nil w, fun h => absurd rfl h⟩, Ext.keeps.refl _⟩
  | some a =>
    have hq : ∀ w, (binOp BinOp.eql 23 (.slice (some a) ks.length cap) (.slice none 0 0)).run Tryz.prog w = .ok (.bool false) w := fun w => Lib.run_eql_slice_nil w _ _ (some a) _ _ 0 0 Tryz.underlying23
    have HKEY := Lib.hid (show ∀ j y, (ks.flatMap Ky.cells)[j]? = some y → (w.alloc (.cells #[] 60)).cell? (a.add j) = some y from fun j y hj => by
      have hjl : j < ks.length * 2 := by
        have := (List.getElem?_eq_some_iff.1 hj).1
        rwa [keyCells_length] at this
      obtain ⟨q, m, rfl, hm⟩ : ∃ q m, j = q * 2 + m ∧ m < 2 := ⟨j / 2, j % 2, by omega, by omega⟩
      have hql : q < ks.length := by omega
      obtain ⟨g, off, e2, c0, c1⟩ := hat q hql
      obtain ⟨k0, k1⟩ := keyCells ks q hql
      rw [Option.some.inj e2, add_at, ← Nat.add_assoc]
      have hm' : m = 0 ∨ m = 1 := by omega
      rcases hm' with rfl | rfl
      · rw [show q * 2 + 0 = q * 2 by omega, k0] at hj
        rw [← Option.some.inj hj]
        exact ((ext_new w _).cell (lt_of_cell c0)).trans c0
      · rw [k1] at hj
        rw [← Option.some.inj hj]
        exact ((ext_new w _).cell (lt_of_cell c1)).trans c1)
    have hby : (0 + ks.length) * 16 ≤ 140737488355328 := by omega
    have hm63 : 0 + ks.length ≤ maxLen := by unfold maxLen; omega
    have HE := Lib.hid (show (w.alloc (.cells #[] 60)).ownsRow w.heap.size 60 2 (.slice (some ⟨w.heap.size, 0, none⟩) 0 0) 0 [] from World.ownsRow_made w #[] 0 (Nat.le_refl _) (by simp [maxLen]) rfl)
    clear hat h0
    go_enter Tryz.func111, Tryz.ntmps111
    go_wp2_with (at_builtin; go_loud (refine wpList_append_own _ rfl (.tmp 5) (.tmp 6) 23 rfl w.heap.size 60 i0 (.agg #[.int .i64 0, .bool false]) 2 16 Tryz.underlying23 hi hz0 hz1 hz2 rfl (by decide) _ 0 [] rfl HE.out a ks.length cap (ks.flatMap Ky.cells) rfl (keyCells_length ks) HKEY.out (key_oneCell ks) hm63 hby (by simp) ?_); intro v2 w2 hown2 hgrow2 _; rw [List.nil_append, Nat.zero_add] at hown2; have HO2 := Lib.hid hown2; have HB2 := Lib.hid (Below.grown (show Below w.heap.size w (w.alloc (.cells #[] 60)) from ext_new w _) hgrow2 (by simp) (fun b hb => (HE.out.lt b hb).1)); clear hown2 hgrow2)
    go_ret
    refine ⟨⟨_, rfl, RdKs.of_owns HO2.out, fun _ k hk => ⟨HO2.out.lt k hk, ?_⟩⟩, HB2.out⟩
    obtain ⟨c, fz, e⟩ := Lib.ownsRow_kind HO2.out k hk
    exact ⟨c, fz, e⟩
theorem wpList_append_oneG {P : Program} {w : World} {ops : Array Oper} {rest : List Oper} {o : Oper} {a : Act} {Q : Exit → Act → World → Prop} (hgd : o.guard = none) (s x : Operand) (t : TypeId)
    (ho : o.op = .call { callee := .builtin .append, args := #[s, x], argTypes := #[t, t] })
    (base : Nat) (e : TypeId) (i : TypeInfo) (z : Value) (size bytes : Nat) (ht : P.underlying t = some (.slice e)) (hi : P.info? e = some i) (hz : i.zero = some z)
    (hsize : i.size = size) (hby : i.bytes = bytes) (hzs : z.cells.size = size) (hsz : 0 < size) (hb100 : bytes ≤ 1000)
    (v : Value) (n : Nat) (xs ys : List Value) (hs : a.eval s = v) (hown : w.ownsRow base e size v n xs) (hx : a.eval x = .slice (some ⟨w.heap.size, 0, none⟩) 1 1) (hl : ys.length = size) (h1 : ∀ u ∈ ys, u.oneCell' = true)
    (hn : n ≤ 10000000) (hbase : base ≤ w.heap.size)
    (h : ∀ v' w', w'.ownsRow base e size v' (n + 1) (xs ++ ys) → Below base (w.alloc (.cells ys.toArray e)) w' → OnlyS (fun k => v.ownBlock = some k) w w' → Grew w v v' → wpList P ops Q rest (a.put o.dst v') w') :
    wpList P ops Q (o :: rest) a (w.alloc (.cells ys.toArray e)) := by
  have hm : (n + 1) * bytes ≤ 140737488355328 := Nat.le_trans (Nat.mul_le_mul (show n + 1 ≤ 10000001 by omega) hb100) (by decide)
  refine wpList_append_apart _ hgd s x t ho base e i z size bytes ht hi hz hsize hby hzs hsz v n xs hs ?_ ⟨w.heap.size, 0, none⟩ 1 1 ys hx (by omega) (row_new w ys e) h1 (by unfold maxLen; omega) hm (by simp; omega) fun v' w' k1 k2 k3 => h v' w' k1 ?_ ?_ ?_
  · exact owns_extS hown (ext_new w _)
  · exact (Below.refl base _).grown k2 (by simp; omega) (fun b hb => (hown.lt b hb).1)
  · exact (OnlyS.of_ext (ext_new w _)).trans (OnlyS.of_grown k2) (fun _ _ h => h)
  · rcases k3 with e | ⟨k, e, hle⟩
    · exact .inl e
    · refine .inr ⟨k, e, ?_⟩
      simp only [World.alloc, Array.size_push] at hle
      omega
theorem make_lost (w : World) (n : Nat) (hn : n ≤ 100000) : ∃ w', (Instr.makeSlice 48 (.int .i64 (n : Int)) (.int .i64 (n : Int))).run Tryz.prog w = .ok (.slice (some ⟨w.heap.size, 0, none⟩) n n) w' ∧ w'.ownsRow w.heap.size 3 1 (.slice (some ⟨w.heap.size, 0, none⟩) n n) n ((List.replicate n 0).map fun a : Nat => Value.int .i64 (a : Int)) ∧ Ext w w' := by
  obtain ⟨i0, hi, hz0, hz1, hz2⟩ := info_parts Tryz.info_int8
  obtain ⟨w', hrun, hown, hgrow⟩ := run_makeSlice_full (P := Tryz.prog) w w.heap.size 48 3 i0 (.int .i64 0) 1 Tryz.underlying48 hi hz0 hz1 .i64 .i64 n (by omega) (by rw [hz2]; omega) (by unfold maxLen; omega) (Nat.le_refl _)
  refine ⟨w', hrun, ?_, ⟨hgrow.os, hgrow.tape, hgrow.output, hgrow.size, fun k hk => hgrow.block k hk (by simp)⟩⟩
  have e : (madeCells (Value.int .i64 0).cells (n * 1)).toList = (List.replicate n 0).map fun a : Nat => Value.int .i64 (a : Int) := by
    rw [Nat.mul_one, List.map_replicate]
    exact toList_madeCells_one _ _
  rwa [e] at hown
end Go.Proofs.YtaoegcakefodaaaGreat

