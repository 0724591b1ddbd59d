/-
  Texts of this proof, merged.
-/
import Derived.Test.YtaoegcakefodaaaGreatZ1
import Derived.Test.YtaoegcakefodaaaGreatZ2
import Derived.Test.YtaoegcakefodaaaGreatZ3
import Derived.Test.YtaoegcakefodaaaGreatZ4
import Derived.Test.YtaoegcakefodaaaGreatZ5
import Derived.Test.YtaoegcakefodaaaGreatZ6
import Derived.Test.YtaoegcakefodaaaGreatZ7
import Derived.Test.YtaoegcakefodaaaGreatZ8
import Derived.Test.YtaoegcakefodaaaGreatZ9
import Derived.Test.YtaoegcakefodaaaGreatZ10
import Derived.Test.YtaoegcakefodaaaGreatZ11
import Derived.Test.YtaoegcakefodaaaGreatZ12
import Derived.Test.YtaoegcakefodaaaGreatZ13
import Derived.Test.YtaoegcakefodaaaGreatZ14
import Derived.Test.YtaoegcakefodaaaGreatZ15
import Derived.Test.YtaoegcakefodaaaGreatZ16
import Derived.Test.YtaoegcakefodaaaGreatZ17
import Derived.Test.YtaoegcakefodaaaGreatZ18
import Derived.Test.YtaoegcakefodaaaGreatZ19
namespace Go.Proofs.YtaoegcakefodaaaGreat
open Go.RowKit Go.BigFrame
def costH : List (List V) → Int
  | [] => 0
  | r :: _ => rowCost r
theorem heldO_eq (cur : List (List (List V))) : heldO cur = (cur.map costH).sum := by
  unfold heldO
  congr 1
theorem costH_pos (l : List (List V)) : 0 ≤ costH l := by
  cases l with
  | nil => exact Int.le_refl _
  | cons r t => have := rowCost_pos r; show 0 ≤ rowCost r; omega
theorem sum_set18 : ∀ (l : List Int) (i : Nat) (x y : Int), l[i]? = some x → (l.set i y).sum = l.sum - x + y
  | [], _, _, _, h => by simp at h
  | a :: t, 0, x, y, h => by
    have e : a = x := by simpa using h
    subst e
    simp only [List.set_cons_zero, List.sum_cons]
    omega
  | a :: t, i + 1, x, y, h => by
    simp only [List.set_cons_succ, List.sum_cons]
    rw [sum_set18 t i x y (by simpa using h)]
    omega
theorem heldO_set {cur : List (List (List V))} {i : Nat} {l : List (List V)} (h : cur[i]? = some l) (l' : List (List V)) : heldO (cur.set i l') = heldO cur - costH l + costH l' := by
  rw [heldO_eq, heldO_eq, List.map_set]
  exact sum_set18 _ _ _ _ (by rw [List.getElem?_map, h]; rfl)
theorem heldO_nonneg (cur : List (List (List V))) : 0 ≤ heldO cur := by
  rw [heldO_eq]
  induction cur with
  | nil => simp
  | cons l t ih => rw [List.map_cons, List.sum_cons]; have := costH_pos l; omega
theorem heldO_le {cur : List (List (List V))} {i : Nat} {l : List (List V)} (h : cur[i]? = some l) : costH l ≤ heldO cur := by
  have h1 := heldO_set h []
  have h2 := heldO_nonneg (cur.set i [])
  have h3 : costH [] = 0 := rfl
  omega
theorem heldO_room {cur : List (List (List V))} {m : Int} (hm : ∀ l ∈ cur, costH l ≤ m) : heldO cur ≤ cur.length * m := by
  rw [heldO_eq]
  induction cur with
  | nil => simp
  | cons l t ih =>
    have h1 := ih fun l hl => hm l (List.mem_cons_of_mem _ hl)
    have h2 := hm l (List.mem_cons_self ..)
    rw [List.map_cons, List.sum_cons, List.length_cons, Int.natCast_add, Int.add_mul]
    simp only [Int.natCast_one, Int.one_mul]
    omega
theorem heldO_none {cur : List (List (List V))} (h : ∀ (i : Nat) (r : List V), (cur.map List.head?)[i]? ≠ some (some r)) : heldO cur = 0 := by
  rw [heldO_eq]
  have key : ∀ l ∈ cur, costH l = 0 := fun l hl => by
    obtain ⟨i, hi, rfl⟩ := List.mem_iff_getElem.1 hl
    cases hc : cur[i] with
    | nil => rfl
    | cons r t =>
      refine absurd ?_ (h i r)
      rw [List.getElem?_map, List.getElem?_eq_getElem hi, hc]
      rfl
  clear h
  induction cur with
  | nil => rfl
  | cons l t ih =>
    rw [List.map_cons, List.sum_cons, key l (List.mem_cons_self ..), ih fun l hl => key l (List.mem_cons_of_mem _ hl)]
    rfl
open Classical in
noncomputable def maxK (P : Nat → Prop) : Nat → Nat
  | 0 => 0
  | n + 1 => if P (n + 1) then n + 1 else maxK P n
theorem maxK_le (P : Nat → Prop) : ∀ n, maxK P n ≤ n
  | 0 => Nat.le_refl _
  | n + 1 => by
    unfold maxK
    split
    · exact Nat.le_refl _
    · exact Nat.le_succ_of_le (maxK_le P n)
theorem le_maxK {P : Nat → Prop} {k : Nat} (h : P k) : ∀ n, k ≤ n → k ≤ maxK P n
  | 0, hk => by omega
  | n + 1, hk => by
    unfold maxK
    split
    · exact hk
    · rename_i hn
      have : k ≠ n + 1 := fun e => hn (e ▸ h)
      exact le_maxK h n (by omega)
theorem maxK_holds {P : Nat → Prop} : ∀ n, (∃ k, k ≤ n ∧ P k) → P (maxK P n)
  | 0, ⟨k, hk, h⟩ => by
    have : k = 0 := by omega
    subst this
    exact h
  | n + 1, ⟨k, hk, h⟩ => by
    unfold maxK
    split
    · assumption
    · rename_i hn
      have : k ≠ n + 1 := fun e => hn (e ▸ h)
      exact maxK_holds n ⟨k, by omega, h⟩
theorem maxK_get {P : Nat → Prop} {n : Nat} (h : ∃ k, k ≤ n ∧ P k) : ∃ k, P k ∧ k ≤ n ∧ maxK P n = k := ⟨_, maxK_holds n h, maxK_le P n, rfl⟩
section
variable {B p q t : Nat} {ks : List Ky} {K R CA HA : Value} {g : List Run} {most base : Int} {P : Nat → Prop} {held : Int} {w : World} {Z : Nat → Nat → Prop} {s : St} {cv hs : List Value} {cur : List (List (List V))}
def ZN (i : Nat) (j : Nat) : Prop := j = 0 ∨ j = 8 + 2 * i ∨ j = 9 + 2 * i ∨ j = 3 ∨ j = 4
def MgNext (B p q t : Nat) (ks : List Ky) (K R CA HA : Value) (g : List Run) (most base : Int) (P : Nat → Prop) (held : Int) (w : World) (Z : Nat → Nat → Prop) (s : St) (cv hs : List Value) (cur : List (List (List V))) (i0 : Nat) (r : Run) (c k : Nat) (e : Ending) (w' : World) : Prop :=
  ∃ Z' : Nat → Nat → Prop, (∀ j, ¬ ZN i0 j → Z' j = Z j) ∧ Z' 3 = Z 3 ∧ Z' 4 = Z 4 ∧ (∀ b, Z' 0 b → Z 0 b ∨ w.heap.size ≤ b) ∧ (∀ b, Z' (8 + 2 * i0) b → Z (8 + 2 * i0) b ∨ w.heap.size ≤ b) ∧ (∀ b, Z' (9 + 2 * i0) b → w.heap.size ≤ b) ∧ OnlyS (fun b => ∃ j, ZN i0 j ∧ Z j b) w w' ∧
    ((∃ v, e = .returned (.tuple #[v, .int .i64 0]) ∧ Mg B p q t ks K R CA HA g most base P (held + costH ((sortS ks r.y).drop k)) w' Z' s cv hs cur ∧ OptO B (Z' (9 + 2 * i0)) w' v ((sortS ks r.y).drop k).head? ∧ Cur (Z' (8 + 2 * i0)) w' c r.f p r.ids (sortS ks r.y) (min (k + 1) (sortS ks r.y).length)) ∨
     (e = .returned (.tuple #[.slice none 0 0, .int .i64 5]) ∧ (most - (base + held) < costH ((sortS ks r.y).drop k)) ∧ Mg B p q t ks K R CA HA g most base P held w' Z' s cv hs cur))
theorem Mg.next (h : Mg B p q t ks K R CA HA g most base P held w Z s cv hs cur) {pk : Int} {i0 : Nat} {r : Run} (hP : ¬ P i0) (hB : B ≤ w.heap.size) {c k : Nat} (_hk : k ≤ (sortS ks r.y).length) {e : Ending} {w' : World}
    (hN : Next18 (Z 0) (Z (8 + 2 * i0)) p q t s ⟨most, base + held, pk⟩ K held R c r.f r.ids (sortS ks r.y) k w e w') : MgNext B p q t ks K R CA HA g most base P held w Z s cv hs cur i0 r c k e w' := by
  obtain ⟨O', C', hp', ho', hO', hC', hOC', hN⟩ := hN
  have hon : OnlyS (fun b => ∃ j, ZN i0 j ∧ Z j b) w w' := ho'.mono fun b _ hb => by
    rcases hb with hb | hb | rfl | rfl
    · exact ⟨0, .inl rfl, hb⟩
    · exact ⟨_, .inr (.inl rfl), hb⟩
    · exact ⟨4, .inr (.inr (.inr (.inr rfl))), h.zq⟩
    · exact ⟨3, .inr (.inr (.inr (.inl rfl))), h.zt⟩
  have a1 : 8 + 2 * i0 ≠ 0 := by omega
  have a2 : 9 + 2 * i0 ≠ 0 := by omega
  have a3 : 9 + 2 * i0 ≠ 8 + 2 * i0 := by omega
  have key : ∀ V : Nat → Prop, (∀ b, V b → w.heap.size ≤ b ∧ b < w'.heap.size ∧ ¬ O' b ∧ ¬ C' b) → ∀ held', (∃ pk, PurS w' q ⟨most, base + held', pk⟩) → Wk5 w' t p q K held' R →
      ∃ Z' : Nat → Nat → Prop, (∀ j, ¬ ZN i0 j → Z' j = Z j) ∧ Z' 3 = Z 3 ∧ Z' 4 = Z 4 ∧ Z' 0 = O' ∧ Z' (8 + 2 * i0) = C' ∧ Z' (9 + 2 * i0) = V ∧ Mg B p q t ks K R CA HA g most base P held' w' Z' s cv hs cur := fun V hV held' hpu hbl => by
    have e0 := setZ3_a Z 0 (8 + 2 * i0) (9 + 2 * i0) O' C' V
    have e1 := setZ3_b Z (9 + 2 * i0) O' C' V a1
    have e2 := setZ3_c Z O' C' V a2 a3
    have eo : ∀ j, j ≠ 0 → j ≠ 8 + 2 * i0 → j ≠ 9 + 2 * i0 → setZ3 Z 0 (8 + 2 * i0) (9 + 2 * i0) O' C' V j = Z j := fun j h1 h2 h3 => setZ3_o Z O' C' V h1 h2 h3
    have hf : Fam 0 (setZ3 Z 0 (8 + 2 * i0) (9 + 2 * i0) O' C' V) w' := h.fam.set3 a1 a2 a3 ho'.size (fun x hx => ⟨(hO' x hx).elim .inl fun h => .inr (.inr (.inr h)), hp'.lt x hx⟩)
      (fun x hx => ⟨(hC' x hx).1.elim (fun h => .inr (.inl h)) fun h => .inr (.inr (.inr h)), (hC' x hx).2⟩) (fun x hx => ⟨.inr (.inr (.inr (hV x hx).1)), (hV x hx).2.1⟩) hOC' (fun x hx hv => (hV x hv).2.2.1 hx) (fun x hx hv => (hV x hv).2.2.2 hx)
    refine ⟨_, fun j hj => eo j (fun e => hj (.inl e)) (fun e => hj (.inr (.inl e))) (fun e => hj (.inr (.inr (.inl e)))), eo 3 (by decide) (by omega) (by omega), eo 4 (by decide) (by omega) (by omega), e0, e1, e2, ?_⟩
    refine h.turn (ZN i0) hon hf (fun j hj => eo j (fun e => hj (.inl e)) (fun e => hj (.inr (.inl e))) (fun e => hj (.inr (.inr (.inl e))))) (fun _ h => h) (fun i hi => ?_) (.inr ⟨by rw [e0]; exact hp', h.ok, h.hold⟩) (.inr ⟨by rw [eo 3 (by decide) (by omega) (by omega)]; exact h.zt, by rw [eo 4 (by decide) (by omega) (by omega)]; exact h.zq, hpu, hbl⟩)
      (fun h => by unfold ZN at h; omega) (.inl ⟨fun h => by unfold ZN at h; omega, rfl⟩) (.inl ⟨fun h => by unfold ZN at h; omega, rfl⟩) (fun _ _ => rfl) (fun _ _ => rfl)
    have hne : i ≠ i0 := fun e => hP (e ▸ hi)
    exact ⟨fun h => by unfold ZN at h; omega, fun h => by unfold ZN at h; omega⟩
  rcases hN with ⟨hkl, rfl, hcu, hpu, hbl⟩ | ⟨hkl, hcu, ⟨hle, ⟨v, rfl, hv⟩, hpu, hbl⟩ | ⟨hlt, rfl, hpu, hbl⟩⟩
  · have hd : (sortS ks r.y).drop k = [] := List.drop_eq_nil_of_le (by omega)
    obtain ⟨Z', z0, z3, z4, z5, z6, z7, hM⟩ := key (fun _ => False) (fun b h => h.elim) held ⟨_, hpu⟩ hbl
    refine ⟨Z', z0, z3, z4, fun b hb => hO' b (by rw [← z5]; exact hb), fun b hb => (hC' b (by rw [← z6]; exact hb)).1, fun b hb => by rw [z7] at hb; exact hb.elim, hon, .inl ⟨_, rfl, ?_, ?_, ?_⟩⟩
    · rw [hd]
      show Mg B p q t ks K R CA HA g most base P (held + 0) w' Z' s cv hs cur
      rw [Int.add_zero]
      exact hM
    · rw [hd]
      rfl
    · rw [z6, show min (k + 1) (sortS ks r.y).length = k by omega]
      exact hcu
  · have hd : (sortS ks r.y).drop k = (sortS ks r.y)[k] :: (sortS ks r.y).drop (k + 1) := List.drop_eq_getElem_cons hkl
    have hvs := hv
    have hVlt : ∀ b, v.ownBlock = some b → w.heap.size ≤ b ∧ b < w'.heap.size ∧ ¬ O' b ∧ ¬ C' b := fun b hb => by
      have h1 := hv.2 b hb
      have h2 := (hv.1.1.lt b hb).2
      exact ⟨h1.1, h2, h1.2⟩
    obtain ⟨Z', z0, z3, z4, z5, z6, z7, hM⟩ := key (fun b => v.ownBlock = some b) hVlt (held + rowCost (sortS ks r.y)[k]) (by
      obtain ⟨pk', hpu⟩ := hpu
      refine ⟨pk', ?_⟩
      rw [← Int.add_assoc]
      exact hpu) hbl
    refine ⟨Z', z0, z3, z4, fun b hb => hO' b (by rw [← z5]; exact hb), fun b hb => (hC' b (by rw [← z6]; exact hb)).1, fun b hb => by rw [z7] at hb; exact (hVlt b hb).1, hon, .inl ⟨_, rfl, ?_, ?_, ?_⟩⟩
    · rw [hd]
      exact hM
    · rw [hd, z7]
      exact ⟨⟨Joins.ownsRow_le hv.1.1 hB, hv.1.2⟩, fun b hb => hb⟩
    · rw [z6, show min (k + 1) (sortS ks r.y).length = k + 1 by omega]
      exact hcu
  · have hd : (sortS ks r.y).drop k = (sortS ks r.y)[k] :: (sortS ks r.y).drop (k + 1) := List.drop_eq_getElem_cons hkl
    obtain ⟨Z', z0, z3, z4, z5, z6, z7, hM⟩ := key (fun _ => False) (fun b h => h.elim) held ⟨_, hpu⟩ hbl
    refine ⟨Z', z0, z3, z4, fun b hb => hO' b (by rw [← z5]; exact hb), fun b hb => (hC' b (by rw [← z6]; exact hb)).1, fun b hb => by rw [z7] at hb; exact hb.elim, hon, .inr ⟨rfl, ?_, hM⟩⟩
    rw [hd]
    exact hlt
def Orig (q t : Nat) (O0 X0 : Nat → Prop) (N : Nat) (Z : Nat → Nat → Prop) : Prop := ∀ i b, Z i b → i = 5 ∨ (i = 0 ∧ O0 b) ∨ (i = 1 ∧ X0 b) ∨ (i = 3 ∧ b = t) ∨ (i = 4 ∧ b = q) ∨ N ≤ b
theorem Orig.only {O0 X0 : Nat → Prop} {w0 w w' : World} {Z : Nat → Nat → Prop} (h : Orig q t O0 X0 w0.heap.size Z) (h0 : OnlyS (fun b => O0 b ∨ X0 b ∨ b = q ∨ b = t) w0 w) {S : Nat → Prop} (h5 : ¬ S 5) (ho : OnlyS (fun b => ∃ i, S i ∧ Z i b) w w') : OnlyS (fun b => O0 b ∨ X0 b ∨ b = q ∨ b = t) w0 w' := by
  refine OnlyS.trans h0 ho fun b hb ⟨i, hi, hz⟩ => ?_
  rcases h i b hz with rfl | ⟨-, h1⟩ | ⟨-, h1⟩ | ⟨-, h1⟩ | ⟨-, h1⟩ | h1
  · exact absurd hi h5
  · exact .inl h1
  · exact .inr (.inl h1)
  · exact .inr (.inr (.inr h1))
  · exact .inr (.inr (.inl h1))
  · omega
theorem Orig.step {O0 X0 : Nat → Prop} {N : Nat} {Z Z' : Nat → Nat → Prop} (h : Orig q t O0 X0 N Z) (hz : ∀ i b, Z' i b → Z i b ∨ N ≤ b) : Orig q t O0 X0 N Z' := fun i b hb => by
  rcases hz i b hb with h1 | h1
  · exact h i b h1
  · exact .inr (.inr (.inr (.inr (.inr h1))))
theorem Orig.next {O0 X0 : Nat → Prop} {N : Nat} {Z Z' : Nat → Nat → Prop} {i0 M : Nat} (h : Orig q t O0 X0 N Z) (hNM : N ≤ M) (z0 : ∀ j, ¬ ZN i0 j → Z' j = Z j) (z3 : Z' 3 = Z 3) (z4 : Z' 4 = Z 4) (z5 : ∀ b, Z' 0 b → Z 0 b ∨ M ≤ b) (z6 : ∀ b, Z' (8 + 2 * i0) b → Z (8 + 2 * i0) b ∨ M ≤ b) (z7 : ∀ b, Z' (9 + 2 * i0) b → M ≤ b) : Orig q t O0 X0 N Z' := by
  refine h.step fun i b hb => ?_
  by_cases hi : ZN i0 i
  · rcases hi with rfl | rfl | rfl | rfl | rfl
    · exact (z5 b hb).imp id fun h => Nat.le_trans hNM h
    · exact (z6 b hb).imp id fun h => Nat.le_trans hNM h
    · exact .inr (Nat.le_trans hNM (z7 b hb))
    · rw [z3] at hb; exact .inl hb
    · rw [z4] at hb; exact .inl hb
  · rw [z0 i hi] at hb
    exact .inl hb
theorem Orig.set {O0 X0 : Nat → Prop} {N : Nat} {Z : Nat → Nat → Prop} {a : Nat} {A : Nat → Prop} (h : Orig q t O0 X0 N Z) (hA : ∀ b, A b → Z a b ∨ N ≤ b) : Orig q t O0 X0 N (setZ Z a A) := by
  refine h.step fun i b hb => ?_
  by_cases hi : i = a
  · subst hi
    rw [setZ_same] at hb
    exact hA b hb
  · rw [setZ_other Z A hi] at hb
    exact .inl hb
end
end Go.Proofs.YtaoegcakefodaaaGreat

namespace Go.Proofs.YtaoegcakefodaaaGreat
open Go.RowKit Go.BigFrame
def Passed18 (p : Nat) (Sk : Nat → St) (Zk : Nat → (Nat → Prop) → World → Prop) (bad : Prop) (Sb : St) (Zb : (Nat → Prop) → World → Prop) (k : Nat) (O X : Nat → Prop) (u : Value) (w : World) (e : Ending) (w' : World) : Prop :=
  ∃ (E : Int) (O' X' : Nat → Prop), e = .returned (.int .i64 E) ∧ OnlyS (fun b => O b ∨ X b) w w' ∧ (∀ b, O' b → O b ∨ w.heap.size ≤ b) ∧ (∀ b, X' b → (X b ∨ u.ownBlock = some b ∨ w.heap.size ≤ b) ∧ b < w'.heap.size) ∧ (∀ b, O' b → ¬ X' b) ∧
    ((E = 0 ∧ PSto O' w' p (Sk (k + 1)) ∧ Zk (k + 1) X' w') ∨ (E = 4 ∧ bad ∧ PSto O' w' p Sb ∧ Zb X' w'))
structure Sink (p : Nat) (ks : List Ky) (g : List Run) (xs : List (List V)) (Gf : Nat) (first cap : Array Value) (Sk : Nat → St) (Zk : Nat → (Nat → Prop) → World → Prop) (bad : Prop) (Sb : St) (Zb : (Nat → Prop) → World → Prop) : Prop where
  keep : ∀ k X w w' Y, Zk k X w → OnlyS Y w w' → (∀ b, Y b → ¬ X b) → Zk k X w'
  ok : ∀ k, k ≤ xs.length → okS (Sk k)
  hold : ∀ k, k ≤ xs.length → ∀ r ∈ g, Holds (Sk k) r.ids (rowsB (sortS ks r.y))
  enter : ∀ args w, (callFunc Gf args).run Tryz.prog w = .ok (.enter Gf args) w
  call : ∀ (k : Nat) (hk : k < xs.length) (O X : Nat → Prop) (w : World) (B : Nat) (u : Value), PSto O w p (Sk k) → Zk k X w → (∀ b, O b → ¬ X b) → w.ownsRow B 56 3 u xs[k].length (xs[k].flatMap V.cells) → (∀ b, u.ownBlock = some b → ¬ O b ∧ ¬ X b) →
    Calls Tryz.prog Gf (first ++ #[u] ++ cap) w (Passed18 p Sk Zk bad Sb Zb k O X u w)
def Merged18 (p q t : Nat) (K R : Value) (g : List Run) (xs : List (List V)) (most base : Int) (Sk : Nat → St) (Zk : Nat → (Nat → Prop) → World → Prop) (bad : Prop) (Sb : St) (Zb : (Nat → Prop) → World → Prop) (O X : Nat → Prop) (w : World) (e : Ending) (w' : World) : Prop :=
  ∃ (E : Int) (O' X' : Nat → Prop) (s' : St) (held' : Int), e = .returned (.int .i64 E) ∧ PSto O' w' p s' ∧ Wk5 w' t p q K held' R ∧ (∃ pk, PurS w' q ⟨most, base + held', pk⟩) ∧ 0 ≤ held' ∧ OnlyS (fun b => O b ∨ X b ∨ b = q ∨ b = t) w w' ∧ (∀ b, O' b → O b ∨ w.heap.size ≤ b) ∧ (∀ b, X' b → (X b ∨ w.heap.size ≤ b) ∧ b < w'.heap.size) ∧ (∀ b, O' b → ¬ X' b) ∧
    ((E = 0 ∧ held' = 0 ∧ s' = Sk xs.length ∧ Zk xs.length X' w') ∨ (E = 5 ∧ (∀ gr, (∀ r ∈ g, ∀ x ∈ r.y, rowCost x ≤ gr) → most - base < g.length * gr) ∧ ∃ k, k ≤ xs.length ∧ s' = Sk k ∧ Zk k X' w') ∨ (E = 4 ∧ bad ∧ s' = Sb ∧ Zb X' w'))
theorem Tre.others {B : Nat} {O X : Nat → Prop} {w w' : World} {p : Addr} {os : List (Option (List V))} {ks : List Ky} {n : Int} (h : Tre B O w p os ks n) (hw : OnlyS X w w') (h1 : ∀ b, X b → ¬ O b) : Tre B O w' p os ks n := by
  obtain ⟨t, K, HV, LV, hs, lost, e, h, h3⟩ := h
  exact ⟨t, K, HV, LV, hs, lost, e, h.others hw h1, h3⟩
section
variable {B p q t : Nat} {ks : List Ky} {K R CA HA : Value} {g : List Run} {most base : Int} {P : Nat → Prop} {held : Int} {w : World} {Z : Nat → Nat → Prop} {s : St} {cv hs : List Value} {cur : List (List (List V))}
theorem Mg.weak (h : Mg B p q t ks K R CA HA g most base P held w Z s cv hs cur) {Q : Nat → Prop} (hQ : ∀ i, Q i → P i) : Mg B p q t ks K R CA HA g most base Q held w Z s cv hs cur :=
  { h with hd := fun i hi => h.hd i (hQ i hi), cu := fun i hi => h.cu i (hQ i hi) }
theorem Mg.bounds (h : Mg B p q t ks K R CA HA g most base P held w Z s cv hs cur) : base + held ≤ most ∧ most ≤ 1048576 ∧ 0 ≤ base + held := by
  obtain ⟨pk, hp⟩ := h.pur
  exact ⟨hp.ok.n1, hp.ok.m1, hp.ok.n0⟩
theorem Mg.ends (h : Mg B p q t ks K R CA HA g most base P held w Z s cv hs cur) {O X : Nat → Prop} {w0 : World} (hO : Orig q t O X w0.heap.size Z) (ho : OnlyS (fun b => O b ∨ X b ∨ b = q ∨ b = t) w0 w) (hp : 0 ≤ held) {xs : List (List V)} {Sk : Nat → St} {Zk : Nat → (Nat → Prop) → World → Prop} {bad : Prop} {Sb : St} {Zb : (Nat → Prop) → World → Prop} {E : Int}
    (hE : (E = 0 ∧ held = 0 ∧ s = Sk xs.length ∧ Zk xs.length (Z 1) w) ∨ (E = 5 ∧ (∀ gr, (∀ r ∈ g, ∀ x ∈ r.y, rowCost x ≤ gr) → most - base < g.length * gr) ∧ ∃ k, k ≤ xs.length ∧ s = Sk k ∧ Zk k (Z 1) w) ∨ (E = 4 ∧ bad ∧ s = Sb ∧ Zb (Z 1) w)) :
    Merged18 p q t K R g xs most base Sk Zk bad Sb Zb O X w0 (.returned (.int .i64 E)) w := by
  refine ⟨E, Z 0, Z 1, s, held, rfl, h.sto, h.blk, h.pur, hp, ho, fun b hb => ?_, fun b hb => ⟨?_, (h.fam.lt 1 b hb).2⟩, h.fam.dis 0 1 (by decide), hE⟩
  · rcases hO 0 b hb with h1 | h1 | h1 | h1 | h1 | h1
    · cases h1
    · exact .inl h1.2
    · cases h1.1
    · cases h1.1
    · cases h1.1
    · exact .inr h1
  · rcases hO 1 b hb with h1 | h1 | h1 | h1 | h1 | h1
    · cases h1
    · cases h1.1
    · exact .inl h1.2
    · cases h1.1
    · cases h1.1
    · exact .inr h1
theorem Mg.head_of (h : Mg B p q t ks K R CA HA g most base (fun _ => True) held w Z s cv hs cur) {l : List (List V)} (hl : l ∈ cur) {x : List V} (hx : x ∈ l) : ∃ r ∈ g, x ∈ sortS ks r.y := by
  obtain ⟨i, hi, rfl⟩ := List.mem_iff_getElem.1 hl
  have hig : i < g.length := by rw [← h.cl]; exact hi
  obtain ⟨c, m, -, -, h1, -⟩ := h.cu i trivial g[i] cur[i] (List.getElem?_eq_getElem hig) (List.getElem?_eq_getElem hi)
  rw [h1] at hx
  exact ⟨g[i], List.getElem_mem hig, List.mem_of_mem_drop hx⟩
theorem too_much {cur : List (List (List V))} {g : List Run} {i0 : Nat} {l : List (List V)} (hcl : cur.length = g.length) (hi : cur[i0]? = some l) (l' : List (List V)) (hall : ∀ m ∈ cur.set i0 l', ∀ x, m.head? = some x → ∃ r ∈ g, x ∈ r.y) {most base : Int} (hlt : most - (base + (heldO cur - costH l)) < costH l') (hnn : 0 ≤ most - (base + (heldO cur - costH l))) (gr : Int) (hgr : ∀ r ∈ g, ∀ x ∈ r.y, rowCost x ≤ gr) : most - base < g.length * gr := by
  have h1 := heldO_set hi l'
  have hilt : i0 < cur.length := (List.getElem?_eq_some_iff.1 hi).1
  have hcost : ∀ m ∈ cur.set i0 l', ∀ x t, m = x :: t → rowCost x ≤ gr := fun m hm x t e => by
    obtain ⟨r, hr, hx⟩ := hall m hm x (by rw [e]; rfl)
    exact hgr r hr x hx
  have hpos : 0 ≤ gr := by
    cases l' with
    | nil => have e : costH [] = 0 := rfl; omega
    | cons x t =>
      have h2 := hcost (x :: t) (List.mem_of_getElem? (List.getElem?_set_self hilt)) x t rfl
      have := rowCost_pos x
      omega
  have h3 := heldO_room (cur := cur.set i0 l') (m := gr) fun m hm => by
    cases m with
    | nil => exact hpos
    | cons x t => exact hcost _ hm x t rfl
  rw [List.length_set, hcl, h1] at h3
  omega
end
def LpM (B p q t : Nat) (ks : List Ky) (K R CA HA : Value) (g : List Run) (most base : Int) (xs : List (List V)) (Sk : Nat → St) (Zk : Nat → (Nat → Prop) → World → Prop) (O X : Nat → Prop) (w : World) (Bt : Nat) (tp : Addr) (k : Nat) (iv ov : Value) (wr : World) : Prop :=
  k ≤ xs.length ∧ ∃ Z cv hs cur nn, iv = .int .i64 (nextI ks (cur.map List.head?)) ∧ ov = .bool (nextB ks (cur.map List.head?)) ∧ Mg B p q t ks K R CA HA g most base (fun _ => True) (heldO cur) wr Z (Sk k) cv hs cur ∧ Zk k (Z 1) wr ∧ Tre Bt (Z 2) wr tp (cur.map List.head?) ks nn ∧ LosPure.mergeL (cmpR ks) cur = xs.drop k ∧ Orig q t O X w.heap.size Z ∧ OnlyS (fun b => O b ∨ X b ∨ b = q ∨ b = t) w wr
theorem make_ptrs (w : World) (n : Nat) (hn : n ≤ 100000) : ∃ w', (Instr.makeSlice 121 (.int .i64 (n : Int)) (.int .i64 (n : Int))).run Tryz.prog w = .ok (.slice (some ⟨w.heap.size, 0, none⟩) n n) w' ∧ w'.ownsRow w.heap.size 122 1 (.slice (some ⟨w.heap.size, 0, none⟩) n n) n (List.replicate n (.pointer none)) ∧ Ext w w' := by
  have hinf : (Tryz.prog.info? 122).map (fun i => (i.zero, i.size, i.bytes)) = some (some (.pointer none), 1, 8) := by kernel_rfl
  obtain ⟨i0, hi, hz0, hz1, hz2⟩ := info_parts hinf
  obtain ⟨w', hrun, hown, hgrow⟩ := run_makeSlice_full (P := Tryz.prog) w w.heap.size 121 122 i0 (.pointer none) 1 Tryz.underlying121 hi hz0 hz1 .i64 .i64 n (by omega) (by rw [hz2]; omega) (by unfold maxLen; omega) (Nat.le_refl _)
  refine ⟨w', hrun, ?_, ⟨hgrow.os, hgrow.tape, hgrow.output, hgrow.size, fun k hk => hgrow.block k hk (by simp)⟩⟩
  have e : (madeCells (Value.pointer none).cells (n * 1)).toList = List.replicate n (.pointer none) := by
    rw [Nat.mul_one]
    exact toList_madeCells_one _ _
  rwa [e] at hown
theorem make_heads (w : World) (n : Nat) (hn : n ≤ 100000) : ∃ w', (Instr.makeSlice 22 (.int .i64 (n : Int)) (.int .i64 (n : Int))).run Tryz.prog w = .ok (.slice (some ⟨w.heap.size, 0, none⟩) n n) w' ∧ w'.ownsRow w.heap.size 58 1 (.slice (some ⟨w.heap.size, 0, none⟩) n n) n (List.replicate n (.slice none 0 0)) ∧ Ext w w' := by
  obtain ⟨i0, hi, hz0, hz1, hz2⟩ := info_parts Tryz.info_row
  obtain ⟨w', hrun, hown, hgrow⟩ := run_makeSlice_full (P := Tryz.prog) w w.heap.size 22 58 i0 (.slice none 0 0) 1 Tryz.underlying22 hi hz0 hz1 .i64 .i64 n (by omega) (by rw [hz2]; omega) (by unfold maxLen; omega) (Nat.le_refl _)
  refine ⟨w', hrun, ?_, ⟨hgrow.os, hgrow.tape, hgrow.output, hgrow.size, fun k hk => hgrow.block k hk (by simp)⟩⟩
  have e : (madeCells (Value.slice none 0 0).cells (n * 1)).toList = List.replicate n (.slice none 0 0) := by
    rw [Nat.mul_one]
    exact toList_madeCells_one _ _
  rwa [e] at hown
end Go.Proofs.YtaoegcakefodaaaGreat

namespace Go.Proofs.YtaoegcakefodaaaGreat
open Go.RowKit Go.BigFrame
def Made18 (w : World) (n ca ha : Nat) (W : World) : Prop := W.ownsRow w.heap.size 122 1 (.slice (some ⟨ca, 0, none⟩) n n) n (List.replicate n (.pointer none)) ∧ W.ownsRow w.heap.size 58 1 (.slice (some ⟨ha, 0, none⟩) n n) n (List.replicate n (.slice none 0 0)) ∧ ca ≠ ha ∧ w.heap.size ≤ ca ∧ w.heap.size ≤ ha ∧ Ext w W
def Z0m (O X : Nat → Prop) (q t : Nat) (g : List Run) (ca ha : Nat) : Nat → Nat → Prop
  | 0 => O
  | 1 => X
  | 3 => fun b => b = t
  | 4 => fun b => b = q
  | 5 => fun b => ∃ r ∈ g, r.F b
  | 6 => fun b => b = ca
  | 7 => fun b => b = ha
  | _ => fun _ => False
theorem z0_fam {O X : Nat → Prop} {q t : Nat} {g : List Run} {ca ha : Nat} {w W : World} (_hx : w.heap.size ≤ W.heap.size) (hO : ∀ b, O b → b < w.heap.size) (hX : ∀ b, X b → b < w.heap.size) (hox : ∀ b, O b → ¬ X b) (hq : q < w.heap.size) (ht : t < w.heap.size) (hqt : q ≠ t) (hoq : ¬ O q ∧ ¬ O t) (hxq : ¬ X q ∧ ¬ X t)
    (hF : ∀ r ∈ g, ∀ b, r.F b → b < w.heap.size ∧ ¬ O b ∧ ¬ X b ∧ b ≠ q ∧ b ≠ t) (hca : w.heap.size ≤ ca ∧ ca < W.heap.size) (hha : w.heap.size ≤ ha ∧ ha < W.heap.size) (hne : ca ≠ ha) : Fam 0 (Z0m O X q t g ca ha) W := by
  have key : ∀ i j, i < j → ∀ b, Z0m O X q t g ca ha i b → ¬ Z0m O X q t g ca ha j b := fun i j hij b hi hj => by
    match i, hij, hi with
    | 0, hij, hi =>
      match j, hij, hj with
      | 1, _, hj => exact hox b hi hj
      | 3, _, hj => exact hoq.2 ((show b = t from hj) ▸ hi)
      | 4, _, hj => exact hoq.1 ((show b = q from hj) ▸ hi)
      | 5, _, hj => obtain ⟨r, hr, hb⟩ := hj; exact (hF r hr b hb).2.1 hi
      | 6, _, hj => have := hO b hi; have : b = ca := hj; omega
      | 7, _, hj => have := hO b hi; have : b = ha := hj; omega
      | 2, _, hj => exact hj
      | _ + 8, _, hj => exact hj
    | 1, hij, hi =>
      match j, hij, hj with
      | 3, _, hj => exact hxq.2 ((show b = t from hj) ▸ hi)
      | 4, _, hj => exact hxq.1 ((show b = q from hj) ▸ hi)
      | 5, _, hj => obtain ⟨r, hr, hb⟩ := hj; exact (hF r hr b hb).2.2.1 hi
      | 6, _, hj => have := hX b hi; have : b = ca := hj; omega
      | 7, _, hj => have := hX b hi; have : b = ha := hj; omega
      | 2, _, hj => exact hj
      | _ + 8, _, hj => exact hj
    | 3, hij, hi =>
      have hi' : b = t := hi
      match j, hij, hj with
      | 4, _, hj => have : b = q := hj; omega
      | 5, _, hj => obtain ⟨r, hr, hb⟩ := hj; exact (hF r hr b hb).2.2.2.2 hi'
      | 6, _, hj => have : b = ca := hj; omega
      | 7, _, hj => have : b = ha := hj; omega
      | 2, _, hj => exact hj
      | _ + 8, _, hj => exact hj
    | 4, hij, hi =>
      have hi' : b = q := hi
      match j, hij, hj with
      | 5, _, hj => obtain ⟨r, hr, hb⟩ := hj; exact (hF r hr b hb).2.2.2.1 hi'
      | 6, _, hj => have : b = ca := hj; omega
      | 7, _, hj => have : b = ha := hj; omega
      | 2, _, hj => exact hj
      | _ + 8, _, hj => exact hj
    | 5, hij, hi =>
      obtain ⟨r, hr, hb⟩ := hi
      have h1 := (hF r hr b hb).1
      match j, hij, hj with
      | 6, _, hj => have : b = ca := hj; omega
      | 7, _, hj => have : b = ha := hj; omega
      | 2, _, hj => exact hj
      | _ + 8, _, hj => exact hj
    | 6, hij, hi =>
      have hi' : b = ca := hi
      match j, hij, hj with
      | 7, _, hj => have : b = ha := hj; omega
      | 2, _, hj => exact hj
      | _ + 8, _, hj => exact hj
    | 2, hij, hi => exact hi
    | 7, hij, hi =>
      match j, hij, hj with
      | _ + 8, _, hj => exact hj
    | _ + 8, hij, hi => exact hi
  refine ⟨fun i b hb => ⟨Nat.zero_le _, ?_⟩, fun i j hij b hi hj => ?_, Nat.zero_le _⟩
  · match i, hb with
    | 0, hb => have := hO b hb; omega
    | 1, hb => have := hX b hb; omega
    | 3, hb => have : b = t := hb; omega
    | 4, hb => have : b = q := hb; omega
    | 5, hb => obtain ⟨r, hr, hb⟩ := hb; have := (hF r hr b hb).1; omega
    | 6, hb => have : b = ca := hb; omega
    | 7, hb => have : b = ha := hb; omega
    | 2, hb => exact hb.elim
    | _ + 8, hb => exact hb.elim
  · rcases Nat.lt_or_gt_of_ne hij with h | h
    · exact key i j h b hi hj
    · exact key j i h b hj hi
end Go.Proofs.YtaoegcakefodaaaGreat

namespace Go.Proofs.YtaoegcakefodaaaGreat
open Go.RowKit Go.BigFrame
theorem sortS_length (ks : List Ky) (l : List (List V)) : (sortS ks l).length = l.length := (sortS_perm ks l).length_eq
theorem part_fill {α β : Type} (g : List α) (f : α → β) (d : β) (n j : Nat) (hn : g.length = n) (hj : j < g.length) : ((g.take j).map f ++ List.replicate (n - j) d)[j]? = some d ∧ ((g.take j).map f ++ List.replicate (n - j) d).set j (f g[j]) = (g.take (j + 1)).map f ++ List.replicate (n - (j + 1)) d := by
  have hl : ((g.take j).map f).length = j := by rw [List.length_map, List.length_take]; omega
  obtain ⟨m, hm⟩ : ∃ m, n - j = m + 1 := ⟨n - j - 1, by omega⟩
  have hm2 : n - (j + 1) = m := by omega
  refine ⟨?_, ?_⟩
  · rw [List.getElem?_append_right (by omega), hl, Nat.sub_self, hm]
    rfl
  · rw [List.set_append_right _ _ (by omega), hl, Nat.sub_self, hm, List.replicate_succ, List.set_cons_zero, List.take_succ_eq_append_getElem hj, List.map_append, List.append_assoc, hm2]
    rfl
section
variable {B p q t : Nat} {ks : List Ky} {K R CA HA : Value} {g : List Run} {most base : Int} {P : Nat → Prop} {held : Int} {w : World} {Z : Nat → Nat → Prop} {s : St} {cv hs : List Value} {cur : List (List (List V))}
theorem pMgNext_any (h : Mg B p q t ks K R CA HA g most base P held w Z s cv hs cur) (hB : B ≤ w.heap.size) {i0 : Nat} {r : Run} (hi : g[i0]? = some r) (hP : ¬ P i0) {c k : Nat} (hk : k ≤ (sortS ks r.y).length) (hC : Cur (Z (8 + 2 * i0)) w c r.f p r.ids (sortS ks r.y) k) (hqt : q ≠ t)
    (hfit : FitB (sortS ks r.y)) (hm : ∀ x ∈ r.y, mayR x = 0) (hc : ∀ x ∈ r.y, rowCost x ≤ 1000000000) (h0 : 0 ≤ held) (hb0 : 0 ≤ base) :
    Calls Tryz.prog 87 #[.pointer (some ⟨t, 0, none⟩), .pointer (some ⟨c, 0, none⟩)] w (MgNext B p q t ks K R CA HA g most base P held w Z s cv hs cur i0 r c k) := by
  have hr : r ∈ g := List.mem_of_getElem? hi
  obtain ⟨pk, hp⟩ := h.pur
  have hbd := h.bounds
  have hF := h.fls.fil r hr
  rw [← sortS_length ks] at hF
  refine (pNext18_any (Z 0) r.F (Z (8 + 2 * i0)) p q t s _ K held R c r.f r.ids (sortS ks r.y) k w h.sto h.ok hF hC hk (h.fam.dis 0 _ (by omega)) hfit (fun x hx => hm x ((sortS_perm ks r.y).mem_iff.1 hx)) (h.hold r hr) h.blk hp hqt
    ⟨fun h2 => h.fam.dis 0 4 (by decide) q h2 h.zq, fun h2 => h.fam.dis 0 3 (by decide) t h2 h.zt⟩ ⟨fun h2 => h.fam.dis _ 4 (by omega) q h2 h.zq, fun h2 => h.fam.dis _ 3 (by omega) t h2 h.zt⟩ (fun x hx => hc x ((sortS_perm ks r.y).mem_iff.1 hx)) h0 (by omega)).mono ?_
  exact fun e w' hN => h.next hP hB hk hN
theorem Mg.all (h : Mg B p q t ks K R CA HA g most base (fun i => i < g.length) held w Z s cv hs cur) : Mg B p q t ks K R CA HA g most base (fun _ => True) held w Z s cv hs cur := by
  have hhl : hs.length = g.length := by simpa using h.ha.1
  exact { h with hd := fun i _ v l hv hl => h.hd i (by have := (List.getElem?_eq_some_iff.1 hv).1; omega) v l hv hl, cu := fun i _ r l hr hl => h.cu i ((List.getElem?_eq_some_iff.1 hr).1) r l hr hl }
theorem Mg.opts (h : Mg B p q t ks K R CA HA g most base (fun _ => True) held w Z s cv hs cur) : HdOpt w hs (cur.map List.head?) := by
  have hhl : hs.length = g.length := by simpa using h.ha.1
  refine ⟨by rw [hhl, List.length_map, h.cl], fun i h1 h2 => ?_⟩
  rw [List.length_map] at h2
  rw [List.getElem_map]
  exact (h.hd i trivial hs[i] cur[i] (List.getElem?_eq_getElem h1) (List.getElem?_eq_getElem h2)).opt
theorem Mg.fit (h : Mg B p q t ks K R CA HA g most base (fun _ => True) held w Z s cv hs cur) (hf : ∀ r ∈ g, FitB (sortS ks r.y)) : ∀ x, some x ∈ cur.map List.head? → FitR 5000 x ∧ x.length ≤ 1000000 := fun x hx => by
  obtain ⟨l, hl, hxl⟩ := heads_mem hx
  obtain ⟨r, hr, hxr⟩ := h.head_of hl hxl
  have h2 := (hf r hr).2 x hxr
  exact ⟨h2.2, by omega⟩
theorem Mg.put (h : Mg B p q t ks K R CA HA g most base P held w Z s cv hs cur) {i0 : Nat} {r : Run} (hi : g[i0]? = some r) (hP : ¬ P i0) {v : Value} {l0 : List (List V)} (hv : OptO B (Z (9 + 2 * i0)) w v l0.head?)
    (hc : ∃ c m, cv[i0]? = some (.pointer (some ⟨c, 0, none⟩)) ∧ m ≤ (sortS ks r.y).length ∧ l0 = (sortS ks r.y).drop m ∧ Cur (Z (8 + 2 * i0)) w c r.f p r.ids (sortS ks r.y) (min (m + 1) (sortS ks r.y).length)) :
    ∃ b c, HA = .slice (some ⟨b, 0, none⟩) g.length c ∧ (∃ u0, w.cell? ⟨b, i0, none⟩ = some u0) ∧ w.frozen? ⟨b, i0, none⟩ = false ∧ Mg B p q t ks K R CA HA g most base (fun i => P i ∨ i = i0) held (w.setCell ⟨b, i0, none⟩ v) Z s cv (hs.set i0 v) (cur.set i0 l0) ∧ OnlyS (fun x => Z 7 x) w (w.setCell ⟨b, i0, none⟩ v) := by
  have hlt := (List.getElem?_eq_some_iff.1 hi).1
  obtain ⟨b, c, h1, h2, h3, h4⟩ := h.writeH hlt hP
  obtain ⟨h5, h6⟩ := h4 v
  have hhl : hs.length = g.length := by simpa using h.ha.1
  refine ⟨b, c, h1, h2, h3, h5.settle hi hP l0 (List.getElem?_set_self (by omega)) ?_ ?_, h6⟩
  · refine hv.others h6 fun k hk h7 => ?_
    refine h.fam.dis 7 (9 + 2 * i0) (by omega) k h7 ?_
    cases hh : l0.head? with
    | none => rw [hh] at hv; rw [show v = .slice none 0 0 from hv] at hk; cases hk
    | some r => rw [hh] at hv; exact hv.2 k hk
  · obtain ⟨c', m, g1, g2, g3, g4⟩ := hc
    exact ⟨c', m, g1, g2, g3, g4.keep h6 fun b h7 => h.fam.dis 7 (8 + 2 * i0) (by omega) b h7⟩
end
end Go.Proofs.YtaoegcakefodaaaGreat

