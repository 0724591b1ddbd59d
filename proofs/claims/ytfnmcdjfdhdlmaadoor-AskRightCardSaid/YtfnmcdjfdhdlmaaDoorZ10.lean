/-
  Texts of this proof, merged: AskStack, LikeRef3, MatchDP, LikeMatch0, CellRefT, Apart, Beside, BelowK, AskRef3.
-/
import Derived.Laws.OwnMore
import Derived.RegionTactic
import Derived.ChangeAlike
import Derived.BigQuiet
import Derived.Lib.AppendZeros
import Derived.Test.YtfnmcdjfdhdlmaaDoorZ4
import Derived.Test.YtfnmcdjfdhdlmaaDoorZ9
import Derived.Test.YtfnmcdjfdhdlmaaDoorZ6
import Derived.Test.YtfnmcdjfdhdlmaaDoorProg
import Derived.Test.YtfnmcdjfdhdlmaaDoorZ1
import Derived.Test.YtfnmcdjfdhdlmaaDoorZ3
/-
  Conditions judged from the last node to the first, with a stack. No program.
-/
namespace Go.Proofs.YtfnmcdjfdhdlmaaDoor
open Go.RowKit

theorem endK_suffix : ∀ (l : List Nd) (k : Nat), endK k l = some [] → ∀ i, (h : i < l.length) → ∃ k', endK (k' + kidsN l[i]) (l.drop (i + 1)) = some []
  | [], _, _, i, h => by simp at h
  | n :: t, 0, hk, _, _ => by rw [endK_zero] at hk; cases hk
  | n :: t, k + 1, hk, 0, _ => ⟨k, by rw [endK_cons] at hk; exact hk⟩
  | n :: t, k + 1, hk, i + 1, h => by
    rw [endK_cons] at hk
    exact endK_suffix t _ hk i (by simpa using h)
theorem stk_enough {α : Type} (comb : Nd → List α → α) {l : List Nd} {k : Nat} (h : endK k l = some []) (i : Nat) (hi : i < l.length) : kidsN l[i] ≤ (stk comb (l.drop (i + 1))).length := by
  obtain ⟨k', hk'⟩ := endK_suffix l k h i hi
  obtain ⟨vs, hv, e⟩ := stk_end comb _ _ _ hk'
  rw [e, List.length_append]
  omega
theorem stk_len {α : Type} (comb : Nd → List α → α) (l : List Nd) : (stk comb l).length ≤ l.length := by
  induction l with
  | nil => exact Nat.le_refl _
  | cons n t ih => rw [stk_cons, List.length_cons, List.length_drop, List.length_cons]; omega

def valD (r : List V) (n : Nd) : V := (r[n.col.toNat]?).getD V.zero
def leafD (lk : List UInt8 → List UInt8 → Bool) (n : Nd) (v : V) : Int :=
  if n.op = 5 then equalT v n.v else if n.op = 6 then lessT v n.v else if n.op = 8 then (if v.k = 0 then 2 else 0) else if v.k = 0 then 1 else if lk n.v.s v.s = true then 2 else 0
def initT (lk : List UInt8 → List UInt8 → Bool) (r : List V) (n : Nd) : Int := if colN n = true then leafD lk n (valD r n) else if n.op = 3 then 0 else 2
def stepT (n : Nd) (a x : Int) : Int := if n.op = 2 then andT a x else if n.op = 3 then orT a x else notT x
theorem tri_step {n : Nd} {a x : Int} (ha : tri a) (hx : tri x) : tri (stepT n a x) := by
  unfold stepT
  split
  · exact tri_and ha hx
  · split
    · exact tri_or ha hx
    · exact tri_not hx
theorem tri_leafD (lk : List UInt8 → List UInt8 → Bool) (n : Nd) (v : V) : tri (leafD lk n v) := by
  unfold leafD
  split
  · exact tri_known _ _ _
  · split
    · exact tri_known _ _ _
    · split
      · split
        · exact .inr (.inr rfl)
        · exact .inl rfl
      · split
        · exact .inr (.inl rfl)
        · split
          · exact .inr (.inr rfl)
          · exact .inl rfl
theorem tri_init (lk : List UInt8 → List UInt8 → Bool) (r : List V) (n : Nd) : tri (initT lk r n) := by
  unfold initT
  split
  · exact tri_leafD _ _ _
  · split
    · exact .inl rfl
    · exact .inr (.inr rfl)
theorem tri_fold {n : Nd} : ∀ (xs : List Int) (a : Int), tri a → (∀ x ∈ xs, tri x) → tri (xs.foldl (stepT n) a)
  | [], _, ha, _ => ha
  | x :: t, _, ha, h => tri_fold t _ (tri_step ha (h x (List.mem_cons_self ..))) fun y hy => h y (List.mem_cons_of_mem _ hy)
theorem comb_step (lk : List UInt8 → List UInt8 → Bool) {ok : List UInt8 → Bool} {K : List Int} (r : List V) {n : Nd} (h : oneN ok K n) (xs : List Int) (hx : xs.length = kidsN n) : combT lk r n xs = xs.foldl (stepT n) (initT lk r n) := by
  obtain ⟨hk1, hk2, hk3, hk4⟩ := oneN_kids h
  unfold combT
  by_cases h2 : n.op = 2
  · have hc : ¬ colN n = true := by unfold colN; simp; omega
    rw [if_pos h2, show stepT n = andT from funext fun _ => funext fun _ => if_pos h2]
    unfold initT
    rw [if_neg hc, if_neg (by omega)]
  · rw [if_neg h2]
    by_cases h3 : n.op = 3
    · have hc : ¬ colN n = true := by unfold colN; simp; omega
      rw [if_pos h3, show stepT n = orT from funext fun _ => funext fun _ => (if_neg h2).trans (if_pos h3)]
      unfold initT
      rw [if_neg hc, if_pos h3]
    · rw [if_neg h3]
      by_cases h4 : n.op = 4
      · have hc : ¬ colN n = true := by unfold colN; simp; omega
        rw [if_pos h4, show stepT n = fun _ x => notT x from funext fun _ => funext fun _ => (if_neg h2).trans (if_neg h3)]
        unfold initT
        rw [if_neg hc, if_neg h3]
      · rw [if_neg h4]
        have hxs : xs = [] := List.length_eq_zero_iff.1 (by have := hk4 h2 h3 h4; omega)
        subst hxs
        show _ = initT lk r n
        unfold initT
        by_cases h1 : n.op = 1
        · have hc : ¬ colN n = true := by unfold colN; simp; omega
          rw [if_pos h1, if_neg hc, if_neg h3]
        · have hc : colN n = true := decide_eq_true (by have := h.1; omega)
          rw [if_neg h1, if_pos hc]
          rfl
theorem stk_tri (lk : List UInt8 → List UInt8 → Bool) {ok : List UInt8 → Bool} {K : List Int} {l : List Nd} (r : List V) (h : rightA ok K l) : ∀ i, ∀ x ∈ stk (combT lk r) (l.drop i), tri x := by
  have key : ∀ (t : List Nd), (∀ n ∈ t, oneN ok K n) → (∀ i, (hi : i < t.length) → kidsN t[i] ≤ (stk (combT lk r) (t.drop (i + 1))).length) → ∀ x ∈ stk (combT lk r) t, tri x := by
    intro t
    induction t with
    | nil => intro _ _ x hx; cases hx
    | cons n t ih =>
      intro h1 h2 x hx
      have iht := ih (fun m hm => h1 m (List.mem_cons_of_mem _ hm)) (fun i hi => h2 (i + 1) (by simpa using hi))
      rw [stk_cons] at hx
      rcases List.mem_cons.1 hx with rfl | hx
      · rw [comb_step lk r (h1 n (List.mem_cons_self ..)) _ (by rw [List.length_take]; have := h2 0 (by simp); simp at this; omega)]
        exact tri_fold _ _ (tri_init lk r n) fun y hy => iht y (List.mem_of_mem_take hy)
      · exact iht x (List.mem_of_mem_drop hx)
  intro i
  refine key (l.drop i) (fun n hn => h.2.1 n (List.mem_of_mem_drop hn)) fun j hj => ?_
  have hj' : i + j < l.length := by rw [List.length_drop] at hj; omega
  have := stk_enough (combT lk r) h.2.2 (i + j) hj'
  rw [List.getElem_drop, List.drop_drop]
  exact this

end Go.Proofs.YtfnmcdjfdhdlmaaDoor

/-
  The contract of the document's own Fixed.
-/
namespace Go.Proofs.YtfnmcdjfdhdlmaaDoor
open Go.RowKit

theorem flat_at (ps : List El) (j f : Nat) (hj : j < ps.length) (hf : f < 3) : (ps.flatMap elC)[j * 3 + f]? = (elC ps[j])[f]? := by
  induction ps generalizing j with
  | nil => simp at hj
  | cons e t ih =>
    have he : (elC e).length = 3 := by cases e <;> rfl
    rw [List.flatMap_cons]
    cases j with
    | zero => rw [List.getElem?_append_left (by omega), Nat.zero_mul, Nat.zero_add]; rfl
    | succ j =>
      rw [List.getElem?_append_right (by omega), he, show (j + 1) * 3 + f - 3 = j * 3 + f by omega]
      exact ih j (by simpa using hj)

end Go.Proofs.YtfnmcdjfdhdlmaaDoor

/-
  How far one can be: what is like some elements, letter by letter. No program.
-/
namespace Go.Proofs.YtfnmcdjfdhdlmaaDoor

theorem bool_iff {a b : Bool} (h : a = true ↔ b = true) : a = b := by cases a <;> cases b <;> simp_all

theorem mt_any1 (l : List (List UInt8)) : mt [.any] l = true := by
  rw [mt_any]
  exact ⟨l.length, Nat.le_refl _, by rw [List.drop_length]; rfl⟩
theorem dp_any (qs : List El) (ls : List (List UInt8)) (k : Nat) (hk : k ≤ ls.length) :
    mt (qs ++ [.any]) (ls.take k) = (mt qs (ls.take k) || (decide (0 < k) && mt (qs ++ [.any]) (ls.take (k - 1)))) := by
  have key : ∀ k, k ≤ ls.length → (mt (qs ++ [.any]) (ls.take k) = true ↔ ∃ m, m ≤ k ∧ mt qs (ls.take m) = true) := fun k hk => by
    rw [mt_append]
    constructor
    · rintro ⟨m, hm, h1, _⟩
      rw [List.length_take] at hm
      rw [List.take_take, Nat.min_eq_left (by omega)] at h1
      exact ⟨m, by omega, h1⟩
    · rintro ⟨m, hm, h1⟩
      exact ⟨m, by rw [List.length_take]; omega, by rw [List.take_take, Nat.min_eq_left hm]; exact h1, mt_any1 _⟩
  apply bool_iff
  rw [Bool.or_eq_true, Bool.and_eq_true, key k hk, key (k - 1) (by omega), decide_eq_true_iff]
  constructor
  · rintro ⟨m, hm, h⟩
    by_cases e : m = k
    · subst e; exact .inl h
    · exact .inr ⟨by omega, m, by omega, h⟩
  · rintro (h | ⟨h0, m, hm, h⟩)
    · exact ⟨k, Nat.le_refl _, h⟩
    · exact ⟨m, by omega, h⟩
theorem dp_one (qs : List El) (ls : List (List UInt8)) (k : Nat) (hk : k ≤ ls.length) :
    mt (qs ++ [.one]) (ls.take k) = (decide (0 < k) && mt qs (ls.take (k - 1))) := by
  apply bool_iff
  rw [Bool.and_eq_true, decide_eq_true_iff, mt_append]
  constructor
  · rintro ⟨m, hm, h1, h2⟩
    rw [List.length_take] at hm
    obtain ⟨d, t, he, h3⟩ := (mt_one _ _).1 h2
    have ht := (mt_nil t).1 h3
    have hl := congrArg List.length he
    rw [ht, List.length_drop, List.length_take] at hl
    simp at hl
    rw [List.take_take, Nat.min_eq_left (by omega)] at h1
    exact ⟨by omega, by rw [show k - 1 = m by omega]; exact h1⟩
  · rintro ⟨h0, h⟩
    refine ⟨k - 1, by rw [List.length_take]; omega, by rw [List.take_take, Nat.min_eq_left (by omega)]; exact h, ?_⟩
    have hl : ((ls.take k).drop (k - 1)).length = 1 := by rw [List.length_drop, List.length_take]; omega
    obtain ⟨d, hd⟩ := List.length_eq_one_iff.1 hl
    rw [hd]
    rfl
theorem dp_lit (c : List UInt8) (qs : List El) (ls : List (List UInt8)) (k : Nat) (hk : k ≤ ls.length) :
    mt (qs ++ [.lit c]) (ls.take k) = (decide (0 < k) && (mt qs (ls.take (k - 1)) && decide (ls[k - 1]? = some c))) := by
  apply bool_iff
  rw [Bool.and_eq_true, Bool.and_eq_true, decide_eq_true_iff, decide_eq_true_iff, mt_append]
  constructor
  · rintro ⟨m, hm, h1, h2⟩
    rw [List.length_take] at hm
    obtain ⟨t, he, h3⟩ := (mt_lit _ _ _).1 h2
    have ht := (mt_nil t).1 h3
    have hl := congrArg List.length he
    rw [ht, List.length_drop, List.length_take] at hl
    simp at hl
    rw [List.take_take, Nat.min_eq_left (by omega)] at h1
    have e0 := congrArg (·[0]?) he
    simp only [List.getElem?_drop, Nat.add_zero, List.getElem?_cons_zero] at e0
    rw [List.getElem?_take_of_lt (by omega)] at e0
    exact ⟨by omega, by rw [show k - 1 = m by omega]; exact h1, by rw [show k - 1 = m by omega]; exact e0⟩
  · rintro ⟨h0, h, hc⟩
    refine ⟨k - 1, by rw [List.length_take]; omega, by rw [List.take_take, Nat.min_eq_left (by omega)]; exact h, ?_⟩
    have hl : ((ls.take k).drop (k - 1)).length = 1 := by rw [List.length_drop, List.length_take]; omega
    obtain ⟨d, hd⟩ := List.length_eq_one_iff.1 hl
    have e0 := congrArg (·[0]?) hd
    simp only [List.getElem?_drop, Nat.add_zero, List.getElem?_cons_zero] at e0
    rw [List.getElem?_take_of_lt (by omega), hc] at e0
    cases e0
    rw [hd, mt_lit]
    exact ⟨[], rfl, rfl⟩
theorem dp_start (ls : List (List UInt8)) (k : Nat) (hk : k ≤ ls.length) : mt [] (ls.take k) = decide (k = 0) := by
  apply bool_iff
  rw [mt_nil, decide_eq_true_iff, List.take_eq_nil_iff]
  constructor
  · rintro (h | h)
    · exact h
    · subst h; simpa using hk
  · exact fun h => .inl h

end Go.Proofs.YtfnmcdjfdhdlmaaDoor

/-
  The contract of the document's own Match.
-/
namespace Go.Proofs.YtfnmcdjfdhdlmaaDoor
open Go.RowKit

theorem Tryd.info_bool : (Tryd.prog.info? 4).map (fun i => (i.zero, i.size, i.bytes)) = some (some (.bool false), 1, 1) := by kernel_rfl

/-- The row's first so many bools. -/
def BRow (base : Nat) (w : World) (v : Value) (n : Nat) (f : Nat → Bool) (m : Nat) : Prop :=
  ∃ g xs, v = .slice (some ⟨g, 0, none⟩) n n ∧ w.ownsRow base 4 1 v n xs ∧ ∀ j, j < m → xs[j]? = some (.bool (f j))
theorem BRow.put {base g n m : Nat} {w : World} {f : Nat → Bool} {b : Bool} (h : BRow base w (.slice (some ⟨g, 0, none⟩) n n) n f m) (hm : m < n) (hb : b = f m) :
    BRow base (w.setCell ⟨g, m, none⟩ (.bool b)) (.slice (some ⟨g, 0, none⟩) n n) n f (m + 1) := by
  obtain ⟨g', xs, hg, ho, hx⟩ := h
  have hl : xs.length = n := by simpa using ho.1
  refine ⟨g, _, rfl, (ho.stored m _).1, fun j hj => ?_⟩
  by_cases e : j = m
  · subst e
    rw [List.getElem?_set_self (by omega), hb]
  · rw [List.getElem?_set_ne (fun h => e h.symm)]
    exact hx j (by omega)
theorem BRow.at {base g n m : Nat} {w : World} {f : Nat → Bool} (h : BRow base w (.slice (some ⟨g, 0, none⟩) n n) n f m) (j : Nat) (hj : j < m) (hn : m ≤ n) : w.cell? ⟨g, j, none⟩ = some (.bool (f j)) := by
  obtain ⟨g', xs, hg, ho, hx⟩ := h
  rw [ho.cellAt j (by omega)]
  exact hx j hj
theorem BRow.has {base g n m : Nat} {w : World} {f : Nat → Bool} (h : BRow base w (.slice (some ⟨g, 0, none⟩) n n) n f m) (j : Nat) (hj : j < n) : ∃ u, w.cell? ⟨g, j, none⟩ = some u := by
  obtain ⟨g', xs, hg, ho, hx⟩ := h
  have hl : xs.length = n := by simpa using ho.1
  rw [ho.cellAt j (by omega)]
  exact ⟨_, List.getElem?_eq_getElem (by omega)⟩
theorem BRow.free {base g n m : Nat} {w : World} {f : Nat → Bool} (h : BRow base w (.slice (some ⟨g, 0, none⟩) n n) n f m) (j : Nat) : w.frozen? ⟨g, j, none⟩ = false := h.choose_spec.choose_spec.2.1.frozenAt j
theorem BRow.lt {base g n m : Nat} {w : World} {f : Nat → Bool} (h : BRow base w (.slice (some ⟨g, 0, none⟩) n n) n f m) : base ≤ g ∧ g < w.heap.size := h.choose_spec.choose_spec.2.1.lt g rfl
theorem BRow.kept {base n m : Nat} {w w' : World} {v : Value} {f : Nat → Bool} (h : BRow base w v n f m) (hb : ∀ k, v.ownBlock = Option.some k → w'.heap[k]? = w.heap[k]?) : BRow base w' v n f m := by
  obtain ⟨g, xs, rfl, ho, hx⟩ := h
  refine ⟨g, xs, rfl, ⟨ho.1, ?_⟩, hx⟩
  rcases ho.2 with h | ⟨g', cap, cur, h1, h2, h3, h4⟩
  · exact .inl h
  · refine .inr ⟨g', cap, cur, h1, h2, ?_, h4⟩
    simp only [Value.slice.injEq, Option.some.injEq, Addr.mk.injEq, and_true, true_and] at h1
    rw [← h1.1] at h3 ⊢
    rw [hb g rfl]; exact h3
theorem BRow.later {base n m : Nat} {w w' : World} {v : Value} {f : Nat → Bool} (h : BRow base w v n f m) (hb : Below w.heap.size w w') : BRow base w' v n f m :=
  h.kept fun k hk => hb.block k (by obtain ⟨g, xs, rfl, ho, hx⟩ := h; exact (ho.lt k hk).2)
theorem BRow.make {w w' : World} {base n : Nat} {xs : List Value} (f : Nat → Bool) (ho : w'.ownsRow base 4 1 (.slice (some ⟨w.heap.size, 0, none⟩) n n) n xs) : BRow base w' (.slice (some ⟨w.heap.size, 0, none⟩) n n) n f 0 :=
  ⟨_, xs, rfl, ho, fun _ hj => absurd hj (Nat.not_lt_zero _)⟩



theorem made_bools (n : Nat) : (madeCells (Value.bool false).cells (n * 1)).toList = List.replicate n (.bool false) := by
  rw [Nat.mul_one]
  exact toList_madeCells_one _ _

set_option maxRecDepth 100000 in
set_option maxHeartbeats 2000000 in
theorem refMatch_any (p s : List UInt8) (w : World) (hT : Tabs w) (hp : p.length ≤ 5000) (hs : s.length ≤ 5000) :
    Calls Tryd.prog 59 #[sv p, sv s] w fun e w' => e = .returned (.tuple #[.bool (isB p s), .int .i64 (errN p)]) ∧ Ext w w' := by
  obtain ⟨i0, hi, hz0, hz1, hz2⟩ := info_parts Tryd.info_bool
  have HT := Lib.hid hT
  have HP := Lib.hid (refParts_any p w hT hp)
  have HSL := Lib.hid (fun w hT => refLetters_any s w hT hs)
  have HLL := Lib.hid (lets_length s)
  have HLP := Lib.hid (lets_length p)
  have HPB := Lib.hid hp
  have HSB := Lib.hid hs
  generalize hB : isB p s = B
  generalize hE : errN p = E
  have HB := Lib.hid hB
  have HE := Lib.hid hE
  obtain ⟨ls, hls⟩ : ∃ ls, ls = lets s := ⟨_, rfl⟩
  have HLS := Lib.hid hls
  rw [← hls] at HSL HLL
  clear hT hE hB hp hs hls
  unfold sv at HP HSL ⊢
  go_enter Tryd.func59, Tryd.ntmps59
  go_wp2_with fail
  refine HP.out.mono ?_
  rintro e w1 ⟨⟨ps, v, h, rfl, hown⟩ | ⟨h, rfl⟩, hb⟩
  · have H := Lib.hid h
    have HB1 := Lib.hid hb
    have hel := els_len _ _ _ (Nat.le_refl _) h
    have hps : ps.length ≤ 5000 := by have := HLP.out; have := HPB.out; omega
    obtain ⟨ao, cp, rfl⟩ : ∃ ao cp, v = .slice ao ps.length cp := by
      rcases hown.2 with ⟨h1, h2⟩ | ⟨g, cap, cur, h1, _⟩
      · exact ⟨none, 0, by rw [h1, h2]⟩
      · exact ⟨_, _, h1⟩
    have HOWN := Lib.hid hown
    clear h hb hel hown
    go_wp2_with fail
    refine (HSL.out _ (HT.out.mono HB1.out)).mono ?_
    rintro e w2 ⟨lv, rfl, ho2, hb2⟩
    rw [List.length_map] at ho2
    have HB2 := Lib.hid hb2
    have HO2 := Lib.hid ho2
    obtain ⟨lo, lc, rfl, hlc1, hlc2, hlca⟩ := RdV.cellsAt (RdV.of_owns ho2)
    simp only [List.length_map] at *
    unfold maxLen at hlc2
    have HLCA := Lib.hid hlca
    have hn5 : ls.length ≤ 5000 := by have := HLL.out; have := HSB.out; omega
    clear ho2 hb2 hlca
    obtain ⟨N, hN⟩ : ∃ N, N = ls.length := ⟨_, rfl⟩
    have HN := Lib.hid hN
    rw [← hN] at hlc1 hn5 HO2 ⊢
    clear hN
    go_wp2_with (at_make; go_loud (refine wpList_make_full _ rfl (.tmp 24) (.tmp 24) 99 rfl w2.heap.size 4 i0 (.bool false) 1 Tryd.underlying99 hi hz0 hz1 .i64 .i64 _ _ (N + 1) rfl rfl (by omega) (by omega) (by rw [hz2]; omega) (by unfold maxLen; omega) (Nat.le_refl _) ?_); intro w3 hown3 hgrow3; have HOWN3 := Lib.hid hown3; have HG3 := Lib.hid hgrow3; have hc0 : w3.cell? ⟨w2.heap.size, 0, none⟩ = some (.bool false) := (by rw [HOWN3.out.cellAt 0 (by omega), made_bools, List.getElem?_replicate, if_pos (by omega)]); have hf0 := HOWN3.out.frozenAt 0; clear hown3 hgrow3)
    have HB3 := Lib.hid (show Below w2.heap.size w2 (w3.setCell ⟨w2.heap.size, 0, none⟩ (.bool true)) from ((Below.refl _ w2).grown HG3.out (Nat.le_refl _) (fun k hk => by cases hk)).setCell (Nat.le_refl _) _)
    have HR0 := Lib.hid (show BRow w2.heap.size (w3.setCell ⟨w2.heap.size, 0, none⟩ (.bool true)) (.slice (some ⟨w2.heap.size, 0, none⟩) (N + 1) (N + 1)) (N + 1) (fun k => mt (ps.take 0) (ls.take k)) (N + 1) by
      refine ⟨_, _, rfl, (HOWN3.out.stored 0 _).1, fun j hj => ?_⟩
      have hn := HN.out
      show _ = some (Value.bool (mt (ps.take 0) (ls.take j)))
      rw [made_bools, List.take_zero, dp_start ls j (by omega)]
      by_cases h0 : j = 0
      · subst h0
        rw [List.getElem?_set_self (by simp)]; rfl
      · rw [List.getElem?_set_ne (fun h => h0 h.symm), List.getElem?_replicate, if_pos hj, decide_eq_false h0])
    generalize hW3 : w3.setCell ⟨w2.heap.size, 0, none⟩ (.bool true) = W3 at HB3 HR0 ⊢
    clear hW3 hc0 hf0 HG3
    go_loopw [9, 10] (fun c i wr => ∃ j : Nat, j ≤ ps.length ∧ i = .int .i64 j ∧ BRow w2.heap.size wr c (N + 1) (fun k => mt (ps.take j) (ls.take k)) (N + 1) ∧ Below w2.heap.size w2 wr) (fun _ i _ => ps.length - (intOf i).toNat)
    case atStart => exact ⟨0, Nat.zero_le _, rfl, HR0.out, HB3.out⟩
    case round =>
      obtain ⟨j, hj, rfl, hrow, hbel⟩ := hrel
      by_cases hlt : j < ps.length
      · obtain ⟨gc, xs0, rfl, ho0, hx0⟩ := hrow
        have HROW := Lib.hid (show BRow w2.heap.size wr (.slice (some ⟨gc, 0, none⟩) (N + 1) (N + 1)) (N + 1) (fun k => mt (ps.take j) (ls.take k)) (N + 1) from ⟨gc, xs0, rfl, ho0, hx0⟩)
        have HBEL := Lib.hid hbel
        clear ho0 hx0 hbel
        go_wp2_with (at_make; go_loud (refine wpList_make_full _ rfl (.tmp 36) (.tmp 36) 99 rfl w2.heap.size 4 i0 (.bool false) 1 Tryd.underlying99 hi hz0 hz1 .i64 .i64 _ _ (N + 1) rfl rfl (by omega) (by omega) (by rw [hz2]; omega) (by unfold maxLen; omega) HBEL.out.size ?_); intro w4 hown4 hgrow4; have HOWN4 := Lib.hid hown4; have HG4 := Lib.hid hgrow4; clear hown4 hgrow4)
        have HB4 := Lib.hid (show Below wr.heap.size wr w4 from (Below.refl _ wr).grown HG4.out (Nat.le_refl _) (fun k hk => by cases hk))
        have HC4 := Lib.hid (HROW.out.later HB4.out)
        have HN4 := Lib.hid (BRow.make (fun k => mt (ps.take (j + 1)) (ls.take k)) HOWN4.out)
        have HE4 := Lib.hid (HBEL.out.trans (HB4.out.mono HBEL.out.size))
        have HGC := Lib.hid HROW.out.lt
        have HGN := Lib.hid HBEL.out.size
        obtain ⟨x, rfl⟩ : ∃ x, ao = some x := by
          rcases HOWN.out.2 with ⟨_, h2⟩ | ⟨g, cap, cur, h1, _⟩
          · omega
          · simp only [Value.slice.injEq] at h1
            exact ⟨_, h1.1⟩
        obtain ⟨g, rfl, _, hg⟩ := own_addr HOWN.out
        have HEL := Lib.hid (show ∀ wi, Below w2.heap.size w2 wi → ∀ f, f < 3 → wi.cell? ⟨g, j * 3 + f, none⟩ = (elC ps[j])[f]? from fun wi hb f hf => by
          have h1 : w1.cell? ⟨g, j * 3 + f, none⟩ = (elC ps[j])[f]? := by rw [HOWN.out.cellAt _ (by omega), flat_at ps j f hlt hf]
          rw [← h1, hb.cell (p := ⟨g, j * 3 + f, none⟩) (by have := HB2.out.size; show g < _; omega), HB2.out.cell (p := ⟨g, j * 3 + f, none⟩) hg])
        have HLT := Lib.hid (show ∀ wi, Below w2.heap.size w2 wi → ∀ m, m < N → ∃ gl c, lo = some ⟨gl, 0, none⟩ ∧ ls[m]? = some c ∧ wi.cell? ⟨gl, m, none⟩ = some (sv c) from fun wi hb m hm => by
          have hml : m < ls.length := by have := HN.out; omega
          obtain ⟨x, rfl, hc⟩ := HLCA.out m (sv ls[m]) (by rw [List.getElem?_map, List.getElem?_eq_getElem hml]; rfl)
          obtain ⟨gl, rfl, _, _⟩ := own_addr HO2.out
          rw [add_at, Nat.zero_add] at hc
          exact ⟨gl, ls[m], rfl, List.getElem?_eq_getElem hml, by rw [hb.cell (lt_of_cell hc)]; exact hc⟩)
        have HTK := Lib.hid (List.take_succ_eq_append_getElem hlt)
        generalize ps[j] = el at HEL HTK
        generalize hgn : wr.heap.size = gn at HN4 HGC HGN ⊢
        clear HOWN4 HG4 HB4 hgn
        go_wp2_with fail
        go_loopw [12] (fun i wi => ∃ m : Nat, m ≤ N + 1 ∧ i = .int .i64 m ∧ BRow w2.heap.size wi (.slice (some ⟨gn, 0, none⟩) (N + 1) (N + 1)) (N + 1) (fun k => mt (ps.take (j + 1)) (ls.take k)) m ∧ BRow w2.heap.size wi (.slice (some ⟨gc, 0, none⟩) (N + 1) (N + 1)) (N + 1) (fun k => mt (ps.take j) (ls.take k)) (N + 1) ∧ Below w2.heap.size w2 wi) (fun i _ => N + 1 - (intOf i).toNat)
        case atStart => exact ⟨0, Nat.zero_le _, rfl, HN4.out, HC4.out, HE4.out⟩
        case round =>
          obtain ⟨m, hm, rfl, hnx, hcn, hbi⟩ := hrel
          have HNX := Lib.hid hnx
          have HCN := Lib.hid hcn
          have HBI := Lib.hid hbi
          by_cases hlm : m ≤ N
          · have hcan := hcn.at m (by omega) (Nat.le_refl _)
            have hcanp : 0 < m → _ := fun h => hcn.at (m - 1) (by omega) (Nat.le_refl _)
            have hnxp : 0 < m → _ := fun h => hnx.at (m - 1) (by omega) (by omega)
            obtain ⟨un, hun⟩ := hnx.has m (by omega)
            have hnf := hnx.free m
            have hc0 := HEL.out wr hbi 0 (by decide)
            have hc1 := HEL.out wr hbi 1 (by decide)
            have hc2 := HEL.out wr hbi 2 (by decide)
            rw [Nat.add_zero] at hc0
            have hmls : m ≤ ls.length := by have := HN.out; omega
            clear hnx hcn hbi
            have HPUT := Lib.hid (fun b hb => HNX.out.put (b := b) (m := m) (by omega) hb)
            have HKEEP := Lib.hid (show ∀ b : Bool, BRow w2.heap.size (wr.setCell ⟨gn, m, none⟩ (.bool b)) (.slice (some ⟨gc, 0, none⟩) (N + 1) (N + 1)) (N + 1) (fun k => mt (ps.take j) (ls.take k)) (N + 1) from fun b => HCN.out.kept fun k hk => Below.heap_setCell _ _ _ _ (by
              have hk : gc = k := by simpa [Value.ownBlock] using hk
              have := HGC.out.2
              show k ≠ gn
              omega))
            have HNXL := Lib.hid HNX.out.lt.1
            cases el with
            | any =>
              simp only [elC, List.getElem?_cons_zero, List.getElem?_cons_succ] at hc0 hc1 hc2
              have HD := Lib.hid (show mt (ps.take (j + 1)) (ls.take m) = (mt (ps.take j) (ls.take m) || (decide (0 < m) && mt (ps.take (j + 1)) (ls.take (m - 1)))) by rw [HTK.out]; exact dp_any (ps.take j) ls m hmls)
              clear hcanp hc1 hc2
              by_cases hb0 : mt (ps.take j) (ls.take m) = true
              · rw [hb0] at hcan
                have HB0 := Lib.hid hb0
                clear hnxp hb0
                go_wp2_with fail
                go_roundw
                case rel => exact ⟨m + 1, by omega, by go_num, HPUT.out true (HD.out.trans (by rw [HB0.out, Bool.true_or])).symm, HKEEP.out _, HBI.out.setCell HNXL.out _⟩
                case measure => simp [intOf] <;> omega
              · have hb0' : mt (ps.take j) (ls.take m) = false := by simpa using hb0
                rw [hb0'] at hcan
                have HB0 := Lib.hid hb0'
                clear hb0 hb0'
                by_cases hm0 : 0 < m
                · have hnp := hnxp hm0
                  have hmd : decide (0 < m) = true := decide_eq_true hm0
                  have HMD := Lib.hid hmd
                  generalize hbb : mt (ps.take (j + 1)) (ls.take (m - 1)) = b at hnp
                  have HBB := Lib.hid hbb
                  clear hnxp hbb
                  go_wp2_with fail
                  go_roundw
                  case rel => exact ⟨m + 1, by omega, by go_num, HPUT.out b (HD.out.trans (by rw [HB0.out, HMD.out, HBB.out, Bool.false_or, Bool.true_and])).symm, HKEEP.out _, HBI.out.setCell HNXL.out _⟩
                  case measure => simp [intOf] <;> omega
                · have hm00 : m = 0 := by omega
                  subst hm00
                  clear hnxp hm0
                  go_wp2_with fail
                  go_roundw
                  case rel => exact ⟨0 + 1, by omega, by go_num, HPUT.out false (HD.out.trans (by first | (rw [HB0.out]; done) | (rw [HB0.out]; simp))).symm, HKEEP.out _, HBI.out.setCell HNXL.out _⟩
                  case measure => simp [intOf] <;> omega
            | one =>
              simp only [elC, List.getElem?_cons_zero, List.getElem?_cons_succ] at hc0 hc1 hc2
              have HD := Lib.hid (show mt (ps.take (j + 1)) (ls.take m) = (decide (0 < m) && mt (ps.take j) (ls.take (m - 1))) by rw [HTK.out]; exact dp_one (ps.take j) ls m hmls)
              clear hnxp hcan hc2
              by_cases hm0 : 0 < m
              · have hcp := hcanp hm0
                have hmd : decide (0 < m) = true := decide_eq_true hm0
                have HMD := Lib.hid hmd
                clear hcanp
                cases hbb : mt (ps.take j) (ls.take (m - 1)) with
                | true =>
                  rw [hbb] at hcp
                  have HBB := Lib.hid hbb
                  clear hbb
                  go_wp2_with fail
                  go_region
                  go_wp2_with fail
                  go_roundw
                  case rel => exact ⟨m + 1, by omega, by go_num, HPUT.out true (HD.out.trans (by rw [HMD.out, HBB.out]; rfl)).symm, HKEEP.out _, (HBI.out.setCell HNXL.out _).drew⟩
                  case measure => simp [intOf] <;> omega
                | false =>
                  rw [hbb] at hcp
                  have HBB := Lib.hid hbb
                  clear hbb
                  go_wp2_with fail
                  go_region
                  go_wp2_with fail
                  go_roundw
                  case rel => exact ⟨m + 1, by omega, by go_num, HPUT.out false (HD.out.trans (by rw [HMD.out, HBB.out]; rfl)).symm, HKEEP.out _, (HBI.out.setCell HNXL.out _).drew⟩
                  case measure => simp [intOf] <;> omega
              · have hm00 : m = 0 := by omega
                subst hm00
                clear hcanp hm0
                go_wp2_with fail
                go_region
                go_wp2_with fail
                go_roundw
                case rel => exact ⟨0 + 1, by omega, by go_num, HPUT.out false (HD.out.trans (by simp)).symm, HKEEP.out _, (HBI.out.setCell HNXL.out _).drew⟩
                case measure => simp [intOf] <;> omega
            | lit c =>
              simp only [elC, List.getElem?_cons_zero, List.getElem?_cons_succ] at hc0 hc1 hc2
              have HD := Lib.hid (show mt (ps.take (j + 1)) (ls.take m) = (decide (0 < m) && (mt (ps.take j) (ls.take (m - 1)) && decide (ls[m - 1]? = some c))) by rw [HTK.out]; exact dp_lit c (ps.take j) ls m hmls)
              unfold sv at hc2
              clear hnxp hcan
              by_cases hm0 : 0 < m
              · have hcp := hcanp hm0
                have hmd : decide (0 < m) = true := decide_eq_true hm0
                have HMD := Lib.hid hmd
                clear hcanp
                cases hbb : mt (ps.take j) (ls.take (m - 1)) with
                | true =>
                  rw [hbb] at hcp
                  have HBB := Lib.hid hbb
                  obtain ⟨gl, c', rfl, hlc', hcl⟩ := HLT.out wr HBI.out (m - 1) (by omega)
                  unfold sv at hcl
                  have HLC' := Lib.hid hlc'
                  clear hbb hlc'
                  by_cases hcc : c = c'
                  · subst hcc
                    go_wp2_with fail
                    go_region
                    go_wp2_with fail
                    go_roundw
                    case rel => exact ⟨m + 1, by omega, by go_num, HPUT.out true (HD.out.trans (by rw [HMD.out, HBB.out, HLC'.out]; simp)).symm, HKEEP.out _, (HBI.out.setCell HNXL.out _).drew⟩
                    case measure => simp [intOf] <;> omega
                  · have hq : (c == c') = false := beq_eq_false_iff_ne.2 hcc
                    have HQ := Lib.hid (show decide (ls[m - 1]? = some c) = false by rw [HLC'.out]; exact decide_eq_false (fun h => hcc (by cases h; rfl)))
                    clear hcc
                    go_wp2_with fail
                    go_region
                    go_wp2_with fail
                    go_roundw
                    case rel => exact ⟨m + 1, by omega, by go_num, HPUT.out false (HD.out.trans (by rw [HMD.out, HBB.out, HQ.out]; rfl)).symm, HKEEP.out _, (HBI.out.setCell HNXL.out _).drew⟩
                    case measure => simp [intOf] <;> omega
                | false =>
                  rw [hbb] at hcp
                  have HBB := Lib.hid hbb
                  clear hbb
                  go_wp2_with fail
                  go_region
                  go_wp2_with fail
                  go_roundw
                  case rel => exact ⟨m + 1, by omega, by go_num, HPUT.out false (HD.out.trans (by rw [HMD.out, HBB.out]; rfl)).symm, HKEEP.out _, (HBI.out.setCell HNXL.out _).drew⟩
                  case measure => simp [intOf] <;> omega
              · have hm00 : m = 0 := by omega
                subst hm00
                clear hcanp hm0
                go_wp2_with fail
                go_region
                go_wp2_with fail
                go_roundw
                case rel => exact ⟨0 + 1, by omega, by go_num, HPUT.out false (HD.out.trans (by simp)).symm, HKEEP.out _, (HBI.out.setCell HNXL.out _).drew⟩
                case measure => simp [intOf] <;> omega
          · have hmN : m = N + 1 := by omega
            subst hmN
            clear hnx hcn hbi
            go_wp2_with fail
            go_roundw
            case rel => exact ⟨j + 1, by omega, by go_num, HNX.out, HBI.out⟩
            case measure => simp [intOf] <;> omega
      · have hjP : j = ps.length := by omega
        obtain ⟨gc, xs0, rfl, ho0, hx0⟩ := hrow
        have hrow : BRow w2.heap.size wr (.slice (some ⟨gc, 0, none⟩) (N + 1) (N + 1)) (N + 1) (fun k => mt (ps.take j) (ls.take k)) (N + 1) := ⟨gc, xs0, rfl, ho0, hx0⟩
        have hcl := hrow.at N (by omega) (Nat.le_refl _)
        have hfin : mt (ps.take j) (ls.take N) = B := by
          rw [hjP, List.take_length, HN.out, List.take_length, HLS.out, ← HB.out, isB_some H.out]
        have hcl : wr.cell? ⟨gc, N, none⟩ = some (.bool B) := by rw [hcl, hfin]
        have HBEL := Lib.hid hbel
        subst hjP
        clear ho0 hx0 hrow hfin hbel
        go_wp2_with fail
        go_ret2
        exact ⟨by rw [← HE.out, errN_some H.out]; rfl, Ext.trans HB1.out (Ext.trans HB2.out HBEL.out)⟩
  · have H := Lib.hid h
    have HBE := Lib.hid hb
    clear h hb
    go_wp2_with fail
    go_ret2
    have hz : isB p s = false := by unfold isB; rw [H.out]
    exact ⟨by rw [← HB.out, ← HE.out, errN_none H.out, hz]; rfl, HBE.out⟩

end Go.Proofs.YtfnmcdjfdhdlmaaDoor

/-
  The contracts of the document's own And, Or, Not.
-/
namespace Go.Proofs.YtfnmcdjfdhdlmaaDoor
open Go.RowKit Go.BigFrame

theorem refTruth_any (a : Int) (_ha : 0 ≤ a ∧ a ≤ 255) (w : World) :
    Calls Tryd.prog 60 #[.int .u8 a] w fun e w' => e = .returned (.int .u8 (tr a)) ∧ w = w' := by
  unfold tr
  by_cases h : 2 < a
  · rw [if_pos h]
    go_enter Tryd.func60, Tryd.ntmps60
    go_wp2_with fail
    go_ret
    exact ⟨rfl, rfl⟩
  · rw [if_neg h]
    go_enter Tryd.func60, Tryd.ntmps60
    go_wp2_with fail
    go_ret
    exact ⟨rfl, rfl⟩

theorem refAnd_any (a b : Int) (ha : 0 ≤ a ∧ a ≤ 255) (hb : 0 ≤ b ∧ b ≤ 255) (w : World) :
    Calls Tryd.prog 34 #[.int .u8 a, .int .u8 b] w fun e w' => e = .returned (.int .u8 (andT a b)) ∧ Ext w w' := by
  unfold andT
  have HA := Lib.hid (refTruth_any a ha)
  have HB := Lib.hid (refTruth_any b hb)
  have ta := tr_three ha.1
  have tb := tr_three hb.1
  clear ha hb
  generalize tr a = x at HA ta ⊢
  generalize tr b = y at HB tb ⊢
  go_enter Tryd.func34, Tryd.ntmps34
  go_wp2_with fail
  refine (HA.out _).mono ?_
  rintro e w' ⟨rfl, rfl⟩
  go_wp2_with fail
  refine (HB.out _).mono ?_
  rintro e w' ⟨rfl, rfl⟩
  go_wp2_with fail
  go_ret
  exact ⟨rfl, by first | exact Ext.keeps.refl _ | exact Ext.drew _⟩

theorem refOr_any (a b : Int) (ha : 0 ≤ a ∧ a ≤ 255) (hb : 0 ≤ b ∧ b ≤ 255) (w : World) :
    Calls Tryd.prog 35 #[.int .u8 a, .int .u8 b] w fun e w' => e = .returned (.int .u8 (orT a b)) ∧ Ext w w' := by
  unfold orT
  have HA := Lib.hid (refTruth_any a ha)
  have HB := Lib.hid (refTruth_any b hb)
  have ta := tr_three ha.1
  have tb := tr_three hb.1
  clear ha hb
  generalize tr a = x at HA ta ⊢
  generalize tr b = y at HB tb ⊢
  go_enter Tryd.func35, Tryd.ntmps35
  go_wp2_with fail
  refine (HA.out _).mono ?_
  rintro e w' ⟨rfl, rfl⟩
  go_wp2_with fail
  refine (HB.out _).mono ?_
  rintro e w' ⟨rfl, rfl⟩
  go_wp2_with fail
  go_ret
  exact ⟨rfl, by first | exact Ext.keeps.refl _ | exact Ext.drew _⟩

theorem refNot_any (a : Int) (ha : 0 ≤ a ∧ a ≤ 255) (w : World) :
    Calls Tryd.prog 36 #[.int .u8 a] w fun e w' => e = .returned (.int .u8 (notT a)) ∧ Ext w w' := by
  unfold notT
  have HA := Lib.hid (refTruth_any a ha)
  have ta := tr_three ha.1
  clear ha
  generalize tr a = x at HA ta ⊢
  have h0 : 0 ≤ x := by omega
  have h2 : x ≤ 2 := by omega
  clear ta
  go_enter Tryd.func36, Tryd.ntmps36
  go_wp2_with fail
  refine (HA.out _).mono ?_
  rintro e w' ⟨rfl, rfl⟩
  go_wp2_with fail
  go_ret
  exact ⟨rfl, Ext.keeps.refl _⟩

end Go.Proofs.YtfnmcdjfdhdlmaaDoor

/-
  append to a row of one's own: where the row lies behind it (in its own block, or in a new one). Over any program.
-/
namespace Go.Proofs.YtfnmcdjfdhdlmaaDoor
open Go.RowKit

theorem run_append_block {P : Program} (w : World) (base : Nat) (t ty e : TypeId) (i : TypeInfo) (z : Value) (size bytes : Nat) (ht : P.underlying t = some (.slice e)) (hi : P.info? e = some i) (hz : i.zero = some z)
    (hsize : i.size = size) (hby : i.bytes = bytes) (hzs : z.cells.size = size) (hsz : 0 < size)
    (v : Value) (n : Nat) (xs : List Value) (hown : w.ownsRow base e size v n xs)
    (a : Addr) (m c : Nat) (news : List Value) (hl : news.length = m * size) (hnews : ∀ j u, news[j]? = some u → w.cell? (a.add j) = some u) (h1 : ∀ u ∈ news, u.oneCell' = true)
    (h63 : n + m ≤ maxLen) (hbytes : (n + m) * bytes ≤ 140737488355328) (hbase : base ≤ w.heap.size) :
    ∃ v' w', (Builtin.append_ #[t, t] ty #[v, .slice (some a) m c]).run P w = .ok v' w' ∧ w'.ownsRow base e size v' (n + m) (xs ++ news) ∧ w.grownBy w' v.ownBlock ∧
      (v'.ownBlock = v.ownBlock ∨ ∃ k, v'.ownBlock = some k ∧ w.heap.size ≤ k) := by
  obtain ⟨v', w', hrun, ho, hg, hn⟩ := run_append_own w base t ty e i z size bytes ht hi hz hsize hby hzs hsz v n xs hown a m c news hl hnews h1 h63 hbytes hbase
  refine ⟨v', w', hrun, ho, hg, ?_⟩
  subst hsize
  subst hby
  have hsmall : n + m ≤ 9223372036854775807 := by simp only [maxLen] at h63; omega
  rcases hown.2 with ⟨rfl, rfl⟩ | ⟨g, cap, cur, rfl, hbg, hg', hnc, hcm, hcs, htake⟩
  · by_cases hm : m = 0
    · left
      rw [hn.2 ⟨rfl, hm⟩]
    · have hr := run_append_nil (P := P) w t ty e i z ht hi hz a m c news hl hnews (by omega) (by omega) (by have hb := hbytes; simp only [Nat.zero_add] at hb; omega)
      rw [hr] at hrun
      simp only [Result.ok.injEq] at hrun
      right
      exact ⟨_, by rw [← hrun.1]; rfl, Nat.le_refl _⟩
  · by_cases hroom : n + m ≤ cap
    · have hfit : n * i.size + news.length ≤ cur.size := by rw [hl, hcs, ← Nat.add_mul]; exact Nat.mul_le_mul_right _ hroom
      have hr := run_append_room (P := P) w t ty e i ht hi g n cap cur hg' a m c news hl hnews h1 hroom hfit
      rw [hr] at hrun
      simp only [Result.ok.injEq] at hrun
      left
      rw [← hrun.1]
      rfl
    · have holds : ∀ j u, xs[j]? = some u → w.cell? ((⟨g, 0, none⟩ : Addr).add j) = some u := hown.cells (g := g) rfl
      have hr := run_append_grow (P := P) w t ty e i z ht hi hz ⟨g, 0, none⟩ n cap xs hown.1 holds a m c news hl hnews (by omega) (by omega) (growslice_fits (by omega) hbytes)
      rw [hr] at hrun
      simp only [Result.ok.injEq] at hrun
      right
      exact ⟨_, by rw [← hrun.1]; rfl, Nat.le_refl _⟩

/-- wpList_append_own, and where the row lies then. -/
theorem wpList_append_apart {P : Program} (w : World) {ops : Array Oper} {rest : List Oper} {o : Oper} {a : Act} {Q : Exit → Act → World → Prop} (hgd : o.guard = none) (s x : Operand) (t : TypeId)
    (ho : o.op = .call { callee := .builtin .append, args := #[s, x], argTypes := #[t, t] })
    (base : Nat) (e : TypeId) (i : TypeInfo) (z : Value) (size bytes : Nat) (ht : P.underlying t = some (.slice e)) (hi : P.info? e = some i) (hz : i.zero = some z)
    (hsize : i.size = size) (hby : i.bytes = bytes) (hzs : z.cells.size = size) (hsz : 0 < size)
    (v : Value) (n : Nat) (xs : List Value) (hs : a.eval s = v) (hown : w.ownsRow base e size v n xs)
    (ad : Addr) (m c : Nat) (news : List Value) (hx : a.eval x = .slice (some ad) m c) (hl : news.length = m * size) (hnews : ∀ j u, news[j]? = some u → w.cell? (ad.add j) = some u) (h1 : ∀ u ∈ news, u.oneCell' = true)
    (h63 : n + m ≤ maxLen) (hbytes : (n + m) * bytes ≤ 140737488355328) (hbase : base ≤ w.heap.size)
    (h : ∀ v' w', w'.ownsRow base e size v' (n + m) (xs ++ news) → w.grownBy w' v.ownBlock → (v'.ownBlock = v.ownBlock ∨ ∃ k, v'.ownBlock = some k ∧ w.heap.size ≤ k) → wpList P ops Q rest (a.put o.dst v') w') : wpList P ops Q (o :: rest) a w := by
  obtain ⟨v', w', hrun, k1, k2, k3⟩ := run_append_block (P := P) w base t o.type e i z size bytes ht hi hz hsize hby hzs hsz v n xs hown ad m c news hl hnews h1 h63 hbytes hbase
  refine wpList_plain hgd fun K hK => ?_
  have hkk := hK _ _ (h v' w' k1 k2 k3)
  unfold Oper.wp
  simp [execOp, ho, resolve, invoke, builtin, hs, hx, hrun, Result.andThen]
  exact hkk

end Go.Proofs.YtfnmcdjfdhdlmaaDoor

/-
  Rows of the call's own that grow side by side: one element at a time. Over any program.
-/
namespace Go.Proofs.YtfnmcdjfdhdlmaaDoor
open Go.RowKit

/-- u lies elsewhere than v. -/
def ApartV (u v : Value) : Prop := ∀ k, u.ownBlock = some k → v.ownBlock ≠ some k
theorem ApartV.symm {u v : Value} (h : ApartV u v) : ApartV v u := fun k h1 h2 => h k h2 h1
theorem ApartV.nil (u : Value) : ApartV u (.slice none 0 0) := fun _ _ h => by cases h
theorem ApartV.nil' (u : Value) : ApartV (.slice none 0 0) u := fun _ h => by cases h
/-- Where a row lies behind an append. -/
def Grew (w : World) (v v' : Value) : Prop := v'.ownBlock = v.ownBlock ∨ ∃ k, v'.ownBlock = some k ∧ w.heap.size ≤ k
theorem ApartV.grew {w : World} {u v v' : Value} (h : ApartV u v) (hu : ∀ k, u.ownBlock = some k → k < w.heap.size) (hg : Grew w v v') : ApartV u v' := by
  intro k hk hv
  rcases hg with e | ⟨k', e, hle⟩
  · exact h k hk (e ▸ hv)
  · rw [e] at hv
    have := hu k hk
    cases hv
    omega
/-- A row beside the one that grew. -/
theorem owns_beside {base n size : Nat} {e : TypeId} {w w' : World} {u v : Value} {xs : List Value} (h : w.ownsRow base e size u n xs) (ho : OnlyS (fun k => v.ownBlock = some k) w w') (ha : ApartV u v) : w'.ownsRow base e size u n xs := by
  refine ⟨h.1, ?_⟩
  rcases h.2 with hn | ⟨g, cap, cur, rfl, hb, hgg, rest⟩
  · exact .inl hn
  · refine .inr ⟨g, cap, cur, rfl, hb, ?_, rest⟩
    rw [ho.block g (Array.getElem?_eq_some_iff.1 hgg).1 (ha g rfl)]
    exact hgg
theorem owns_extS {base n size : Nat} {e : TypeId} {w w' : World} {u : Value} {xs : List Value} (h : w.ownsRow base e size u n xs) (hx : Ext w w') : w'.ownsRow base e size u n xs :=
  h.kept (row := none) ⟨hx.os, hx.tape, hx.output, hx.size, fun k hk _ => hx.block k hk⟩ (by cases u.ownBlock <;> simp)
/-- append(l, x) of one element that the call has just put into a row of its own. -/
theorem wpList_append_one {P : Program} {w : World} {ops : Array Oper} {rest : List Oper} {o : Oper} {a : Act} {Q : Exit → Act → World → Prop} (hgd : o.guard = none) (s x : Operand) (t : TypeId)
    (ho : o.op = .call { callee := .builtin .append, args := #[s, x], argTypes := #[t, t] })
    (base : Nat) (e : TypeId) (i : TypeInfo) (z : Value) (size bytes : Nat) (ht : P.underlying t = some (.slice e)) (hi : P.info? e = some i) (hz : i.zero = some z)
    (hsize : i.size = size) (hby : i.bytes = bytes) (hzs : z.cells.size = size) (hsz : 0 < size) (hb100 : bytes ≤ 1000)
    (v : Value) (n : Nat) (xs ys : List Value) (hs : a.eval s = v) (hown : w.ownsRow base e size v n xs) (hx : a.eval x = .slice (some ⟨w.heap.size, 0, none⟩) 1 1) (hl : ys.length = size) (h1 : ∀ u ∈ ys, u.oneCell' = true)
    (hn : n ≤ 10000000) (hbase : base ≤ w.heap.size)
    (h : ∀ v' w', w'.ownsRow base e size v' (n + 1) (xs ++ ys) → Below base w w' → OnlyS (fun k => v.ownBlock = some k) w w' → Grew w v v' → wpList P ops Q rest (a.put o.dst v') w') :
    wpList P ops Q (o :: rest) a (w.alloc (.cells ys.toArray e)) := by
  have hm : (n + 1) * bytes ≤ 140737488355328 := Nat.le_trans (Nat.mul_le_mul (show n + 1 ≤ 10000001 by omega) hb100) (by decide)
  refine wpList_append_apart _ hgd s x t ho base e i z size bytes ht hi hz hsize hby hzs hsz v n xs hs ?_ ⟨w.heap.size, 0, none⟩ 1 1 ys hx (by omega) (row_new w ys e) h1 (by unfold maxLen; omega) hm (by simp; omega) fun v' w' k1 k2 k3 => h v' w' k1 ?_ ?_ ?_
  · exact owns_extS hown (ext_new w _)
  · exact (((Below.refl base w).alloc hbase _).grown k2 (by simp; omega) (fun b hb => (hown.lt b hb).1))
  · exact (OnlyS.of_ext (ext_new w _)).trans (OnlyS.of_grown k2) (fun _ _ h => h)
  · rcases k3 with e | ⟨k, e, hle⟩
    · exact .inl e
    · refine .inr ⟨k, e, ?_⟩
      simp only [World.alloc, Array.size_push] at hle
      omega

end Go.Proofs.YtfnmcdjfdhdlmaaDoor

/-
  Blocks from a number on: as a relation that regions keep; a row cut to its first ones.
-/
namespace Go.Proofs.YtfnmcdjfdhdlmaaDoor
open Go.RowKit Go.BigFrame

theorem Below.keepsD (B : Nat) : Keeps (Below B) := ⟨fun _ => Below.refl _ _, fun _ _ _ h k => Below.trans h k⟩
instance (B : Nat) (w : World) : Inhabited (Later (Below B) w) := ⟨⟨w, Below.refl _ _⟩⟩
theorem owns_take {base : Nat} {e : TypeId} {w : World} {a : Option Addr} {n cap : Nat} {xs : List Value} (h : w.ownsRow base e 1 (.slice a n cap) n xs) (k : Nat) (hk : k ≤ n) : w.ownsRow base e 1 (.slice a k cap) k (xs.take k) := by
  obtain ⟨h1, h2⟩ := h
  refine ⟨by rw [List.length_take, h1]; omega, ?_⟩
  rcases h2 with ⟨h3, h4⟩ | ⟨g, c, cur, h3, h4, h5, h6, h7, h8, h9⟩
  · simp only [Value.slice.injEq] at h3
    obtain ⟨rfl, h10, rfl⟩ := h3
    have : k = 0 := by omega
    subst this
    exact .inl ⟨rfl, rfl⟩
  · simp only [Value.slice.injEq] at h3
    obtain ⟨rfl, -, rfl⟩ := h3
    refine .inr ⟨g, cap, cur, rfl, h4, h5, by omega, h7, h8, ?_⟩
    rw [← h9, List.take_take]
    congr 1
    omega
theorem ownBlock_len (a : Option Addr) (n m c : Nat) : (Value.slice a n c).ownBlock = (Value.slice a m c).ownBlock := by cases a <;> rfl
theorem empty_text (w : World) : (w.alloc (.cells #[] 9)).ownsRow w.heap.size 9 1 (.slice (some ⟨w.heap.size, 0, none⟩) 0 0) 0 [] := World.ownsRow_made w #[] 0 (Nat.le_refl _) (by simp [maxLen]) rfl

end Go.Proofs.YtfnmcdjfdhdlmaaDoor

/-
  The contracts of the document's own conditions: Eval.
-/
namespace Go.Proofs.YtfnmcdjfdhdlmaaDoor
section
open Go.RowKit Go.BigFrame

theorem refTruth14_any (b : Bool) (w : World) : Calls Tryd.prog 58 #[.bool b] w fun e w' => e = .returned (.int .u8 (if b = true then 2 else 0)) ∧ w' = w := by
  cases b with
  | true =>
    go_enter Tryd.func58, Tryd.ntmps58
    go_wp2_with fail
    go_ret
    exact ⟨rfl, rfl⟩
  | false =>
    go_enter Tryd.func58, Tryd.ntmps58
    go_wp2_with fail
    go_ret
    exact ⟨rfl, rfl⟩

set_option maxRecDepth 100000 in
set_option maxHeartbeats 2000000 in
theorem refLeaf_any (n : Nd) (x : V) (w : World) (hT : Tabs w) (hn : n.v.fits ∧ n.v.s.length ≤ 5000) (hx : x.fits ∧ x.s.length ≤ 5000) :
    Calls Tryd.prog 32 #[n.val, x.val] w fun e w' => e = .returned (.int .u8 (leafD isB n x)) ∧ Ext w w' := by
  have HE := Lib.hid (fun W => refEqual_any x n.v W)
  have HL := Lib.hid (fun W => refLess_any x n.v hx.1 hn.1 W)
  have HM := Lib.hid (fun W (h : Ext w W) => refMatch_any n.v.s x.s W (hT.mono h) hn.2 hx.2)
  have HQ := Lib.hid (show leafD isB n x = if n.op = 5 then equalT x n.v else if n.op = 6 then lessT x n.v else if n.op = 8 then (if x.k = 0 then 2 else 0) else if x.k = 0 then 1 else if isB n.v.s x.s = true then 2 else 0 from rfl)
  rw [HQ.out]
  obtain ⟨o, c, kd, ⟨vk, vn, vs⟩⟩ := n
  obtain ⟨xk, xn, xs⟩ := x
  unfold Nd.val
  unfold V.val at HE HL ⊢
  simp only at HE HL HM ⊢
  have HX := Lib.hid (Ext.trans (ext_new w (.cells #[.int .u8 o, .int .i64 c, .int .i64 kd, .int .u8 vk, .int .i64 vn, .string ⟨vs.toArray⟩] 41)) (ext_new _ (.cells #[.int .u8 xk, .int .i64 xn, .string ⟨xs.toArray⟩] 39)))
  clear hT hn hx HQ
  by_cases h5 : o = 5
  · subst h5
    rw [if_pos rfl]
    go_enter Tryd.func32, Tryd.ntmps32
    go_wp2_with fail
    refine (HE.out _).mono ?_
    rintro e w1 ⟨rfl, hx⟩
    have HX1 := Lib.hid (Ext.trans HX.out hx)
    clear hx
    go_wp2_with fail
    go_ret
    exact ⟨rfl, HX1.out⟩
  · rw [if_neg h5]
    have q5 : (o == (5 : Int)) = false := beq_eq_false_iff_ne.2 h5
    clear h5
    by_cases h6 : o = 6
    · subst h6
      rw [if_pos rfl]
      go_enter Tryd.func32, Tryd.ntmps32
      go_wp2_with fail
      refine (HL.out _).mono ?_
      rintro e w1 ⟨rfl, hx⟩
      have HX1 := Lib.hid (Ext.trans HX.out hx)
      clear hx
      go_wp2_with fail
      go_ret
      exact ⟨rfl, HX1.out⟩
    · rw [if_neg h6]
      have q6 : (o == (6 : Int)) = false := beq_eq_false_iff_ne.2 h6
      clear h6
      by_cases h8 : o = 8
      · subst h8
        rw [if_pos rfl]
        by_cases h0 : xk = 0
        · rw [if_pos h0]
          subst h0
          go_enter Tryd.func32, Tryd.ntmps32
          go_wp2_with fail
          refine (refTruth14_any _ _).mono ?_
          rintro e w1 ⟨rfl, rfl⟩
          go_wp2_with fail
          go_ret
          exact ⟨rfl, HX.out⟩
        · rw [if_neg h0]
          have q0 : (xk == (0 : Int)) = false := beq_eq_false_iff_ne.2 h0
          clear h0
          go_enter Tryd.func32, Tryd.ntmps32
          go_wp2_with fail
          refine (refTruth14_any _ _).mono ?_
          rintro e w1 ⟨rfl, rfl⟩
          go_wp2_with fail
          go_ret
          exact ⟨rfl, HX.out⟩
      · rw [if_neg h8]
        have q8 : (o == (8 : Int)) = false := beq_eq_false_iff_ne.2 h8
        clear h8
        by_cases h0 : xk = 0
        · rw [if_pos h0]
          subst h0
          go_enter Tryd.func32, Tryd.ntmps32
          go_wp2_with fail
          go_ret
          exact ⟨rfl, HX.out⟩
        · rw [if_neg h0]
          have q0 : (xk == (0 : Int)) = false := beq_eq_false_iff_ne.2 h0
          clear h0
          generalize isB vs xs = b at HM ⊢
          generalize errN vs = E at HM
          have HTR := Lib.hid (fun W => refTruth14_any b W)
          generalize (if b = true then (2 : Int) else 0) = z at HTR ⊢
          go_enter Tryd.func32, Tryd.ntmps32
          go_wp2_with fail
          refine (HM.out _ HX.out).mono ?_
          rintro e w1 ⟨rfl, hx⟩
          have HX1 := Lib.hid (Ext.trans HX.out hx)
          clear hx
          go_wp2_with fail
          refine (HTR.out _).mono ?_
          rintro e w2 ⟨rfl, rfl⟩
          go_wp2_with fail
          go_ret
          exact ⟨rfl, HX1.out⟩
end
end Go.Proofs.YtfnmcdjfdhdlmaaDoor
