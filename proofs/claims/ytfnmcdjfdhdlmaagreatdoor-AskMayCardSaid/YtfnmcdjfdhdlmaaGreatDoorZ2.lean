/-
  Texts of this proof, merged: ZonePure, AskPure, AskWhole.
-/
import Derived.Test.YtfnmcdjfdhdlmaaGreatDoorZ1
/-
  What is known, read off bytes one behind the other. No program.
-/
namespace Go.Proofs.YtfnmcdjfdhdlmaaGreatDoor
section
open Go.RowKit

/-- What is known: the least, the greatest, how many are nothing, how many there are. -/
structure Zo where
  a : V
  b : V
  n : Int
  m : Int
deriving DecidableEq

def Zo.zero : Zo := ⟨V.zero, V.zero, 0, 0⟩
/-- As a value of the model. -/
def Zo.val (z : Zo) : Value := .agg #[.int .u8 z.a.k, .int .i64 z.a.n, .string ⟨z.a.s.toArray⟩, .int .u8 z.b.k, .int .i64 z.b.n, .string ⟨z.b.s.toArray⟩, .int .i64 z.n, .int .i64 z.m]
def Zo.cells (z : Zo) : List Value := [.int .u8 z.a.k, .int .i64 z.a.n, .string ⟨z.a.s.toArray⟩, .int .u8 z.b.k, .int .i64 z.b.n, .string ⟨z.b.s.toArray⟩, .int .i64 z.n, .int .i64 z.m]
/-- What may come in. -/
structure Zo.fits (z : Zo) : Prop where
  a : z.a.fits
  b : z.b.fits
  n0 : -9223372036854775808 ≤ z.n
  n1 : z.n ≤ 9223372036854775807
  m0 : -9223372036854775808 ≤ z.m
  m1 : z.m ≤ 9223372036854775807

/-! ### The first one by an order -/

structure IsCmp (c : V → V → Int) : Prop where
  zero : ∀ a b, c a b = 0 ↔ a = b
  neg : ∀ a b, c b a = - c a b
  trans : ∀ a b d, c a b < 0 → c b d < 0 → c a d < 0
theorem isCmp_V : IsCmp cmpV := ⟨fun _ _ => cmpV_zero, cmpV_neg, fun a b d h1 h2 => by
  have e1 := cmpV_three a b
  have e2 := cmpV_three b d
  have e3 := cmpV_trans (a := a) (b := b) (c := d) (by omega) (by omega)
  omega⟩
def cmpW (a b : V) : Int := cmpV b a
theorem isCmp_W : IsCmp cmpW := ⟨fun _ _ => cmpV_zero.trans eq_comm, fun a b => cmpV_neg b a, fun a b d h1 h2 => isCmp_V.trans d b a h2 h1⟩

def nz (v : V) : V := if v.k = 0 then V.zero else v
def pick (c : V → V → Int) (a b : V) : V := nz (if a.k = 0 ∨ (b.k ≠ 0 ∧ c b a < 0) then b else a)
theorem nz_yes {v : V} (h : v.k ≠ 0) : nz v = v := if_neg h
theorem nz_no {v : V} (h : v.k = 0) : nz v = V.zero := if_pos h
theorem nz_fits {v : V} (h : v.fits) : (nz v).fits := by
  unfold nz
  split
  · exact ⟨by decide, by decide, by decide, by decide⟩
  · exact h
theorem pick_fits {c : V → V → Int} {a b : V} (ha : a.fits) (hb : b.fits) : (pick c a b).fits := by
  unfold pick
  split
  · exact nz_fits hb
  · exact nz_fits ha

/-- v is the first one of values by that order (nothing, if all are nothing). -/
def First (c : V → V → Int) (l : List V) (v : V) : Prop := (v = V.zero ∧ ∀ x ∈ l, x.k = 0) ∨ (v.k ≠ 0 ∧ v ∈ l ∧ ∀ x ∈ l, x.k ≠ 0 → ¬ c x v < 0)
theorem First.unique {c : V → V → Int} (hc : IsCmp c) {l l' : List V} {v v' : V} (hl : ∀ x, x ∈ l ↔ x ∈ l') (h : First c l v) (h' : First c l' v') : v = v' := by
  rcases h with ⟨rfl, h1⟩ | ⟨h1, h2, h3⟩
  · rcases h' with ⟨rfl, -⟩ | ⟨h4, h5, -⟩
    · rfl
    · exact absurd (h1 v' ((hl v').2 h5)) h4
  · rcases h' with ⟨rfl, h4⟩ | ⟨h4, h5, h6⟩
    · exact absurd (h4 v ((hl v).1 h2)) h1
    · have a1 := h3 v' ((hl v').2 h5) h4
      have a2 := h6 v ((hl v).1 h2) h1
      have a3 := hc.neg v v'
      exact (hc.zero v v').1 (by omega)
theorem First.both {c : V → V → Int} (hc : IsCmp c) {x y : List V} {v w : V} (h : First c x v) (h' : First c y w) : First c (x ++ y) (pick c v w) := by
  unfold pick
  rcases h with ⟨rfl, h1⟩ | ⟨h1, h2, h3⟩
  · rw [if_pos (.inl rfl)]
    rcases h' with ⟨rfl, h4⟩ | ⟨h4, h5, h6⟩
    · refine .inl ⟨rfl, fun z hz => ?_⟩
      rcases List.mem_append.1 hz with hz | hz
      · exact h1 z hz
      · exact h4 z hz
    · rw [nz_yes h4]
      refine .inr ⟨h4, List.mem_append_right _ h5, fun z hz hk => ?_⟩
      rcases List.mem_append.1 hz with hz | hz
      · exact absurd (h1 z hz) hk
      · exact h6 z hz hk
  · rcases h' with ⟨rfl, h4⟩ | ⟨h4, h5, h6⟩
    · rw [if_neg (by rintro (h | h); exact h1 h; exact h.1 rfl), nz_yes h1]
      refine .inr ⟨h1, List.mem_append_left _ h2, fun z hz hk => ?_⟩
      rcases List.mem_append.1 hz with hz | hz
      · exact h3 z hz hk
      · exact absurd (h4 z hz) hk
    · by_cases hlt : c w v < 0
      · rw [if_pos (.inr ⟨h4, hlt⟩), nz_yes h4]
        refine .inr ⟨h4, List.mem_append_right _ h5, fun z hz hk hzw => ?_⟩
        rcases List.mem_append.1 hz with hz | hz
        · exact h3 z hz hk (hc.trans z w v hzw hlt)
        · exact h6 z hz hk hzw
      · rw [if_neg (by rintro (h | h); exact h1 h; exact hlt h.2), nz_yes h1]
        refine .inr ⟨h1, List.mem_append_left _ h2, fun z hz hk hzv => ?_⟩
        rcases List.mem_append.1 hz with hz | hz
        · exact h3 z hz hk hzv
        · by_cases e : v = w
          · subst e
            exact h6 z hz hk hzv
          · have a1 : c v w ≠ 0 := fun h => e ((hc.zero v w).1 h)
            have a2 := hc.neg v w
            exact h6 z hz hk (hc.trans z v w hzv (by omega))
theorem First.one {c : V → V → Int} (hc : IsCmp c) (v : V) : First c [v] (nz v) := by
  by_cases h : v.k = 0
  · rw [nz_no h]
    exact .inl ⟨rfl, fun x hx => by rw [List.mem_singleton.1 hx]; exact h⟩
  · rw [nz_yes h]
    refine .inr ⟨h, List.mem_singleton.2 rfl, fun x hx _ => ?_⟩
    rw [List.mem_singleton.1 hx, (hc.zero v v).2 rfl]
    decide
theorem First.mem {c : V → V → Int} {l : List V} {v : V} (h : First c l v) : v = V.zero ∨ v ∈ l := by
  rcases h with h | h
  · exact .inl h.1
  · exact .inr h.2.1

/-! ### What is known of values -/

def mergeZ (p q : Zo) : Zo := ⟨pick cmpV p.a q.a, pick cmpW p.b q.b, wrap64 (p.n + q.n), wrap64 (p.m + q.m)⟩
def oneZ (v : V) : Zo := ⟨nz v, nz v, if v.k = 0 then 1 else 0, 1⟩
def ofZ (l : List V) : Zo := l.foldl (fun z v => mergeZ z (oneZ v)) Zo.zero
theorem ofZ_snoc (l : List V) (v : V) : ofZ (l ++ [v]) = mergeZ (ofZ l) (oneZ v) := by
  unfold ofZ
  rw [List.foldl_append]
  rfl
theorem wrapZ_fits (x : Int) : -9223372036854775808 ≤ wrap64 x ∧ wrap64 x ≤ 9223372036854775807 := by unfold wrap64; omega
theorem mergeZ_fits {p q : Zo} (hp : p.fits) (hq : q.fits) : (mergeZ p q).fits :=
  ⟨pick_fits hp.a hq.a, pick_fits hp.b hq.b, (wrapZ_fits _).1, (wrapZ_fits _).2, (wrapZ_fits _).1, (wrapZ_fits _).2⟩
theorem zero_fits : Zo.zero.fits := ⟨⟨by decide, by decide, by decide, by decide⟩, ⟨by decide, by decide, by decide, by decide⟩, by decide, by decide, by decide, by decide⟩
theorem oneZ_fits {v : V} (h : v.fits) : (oneZ v).fits := ⟨nz_fits h, nz_fits h, by unfold oneZ; simp only; split <;> decide, by unfold oneZ; simp only; split <;> decide, by show (-9223372036854775808 : Int) ≤ 1; decide, by show (1 : Int) ≤ 9223372036854775807; decide⟩
def nullsN (l : List V) : Nat := (l.filter fun v => decide (v.k = 0)).length
theorem nullsN_le (l : List V) : nullsN l ≤ l.length := List.length_filter_le _ _
theorem nullsN_append (x y : List V) : nullsN (x ++ y) = nullsN x + nullsN y := by unfold nullsN; rw [List.filter_append, List.length_append]
theorem nullsN_pos {l : List V} {v : V} (h : v ∈ l) (hk : v.k = 0) : 0 < nullsN l := List.length_pos_of_mem (List.mem_filter.2 ⟨h, decide_eq_true hk⟩)
theorem nullsN_lt {l : List V} {v : V} (h : v ∈ l) (hk : v.k ≠ 0) : nullsN l < l.length := by
  induction l with
  | nil => cases h
  | cons x l ih =>
    unfold nullsN at *
    rw [List.filter_cons]
    by_cases hx : x.k = 0
    · rw [if_pos (decide_eq_true hx)]
      rcases List.mem_cons.1 h with e | e
      · exact absurd (e ▸ hx) hk
      · have := ih e
        simp only [List.length_cons]
        omega
    · rw [if_neg (by simpa using hx)]
      have := List.length_filter_le (fun v => decide (v.k = 0)) l
      simp only [List.length_cons]
      omega
theorem nullsN_all {l : List V} (h : nullsN l = l.length) : ∀ x ∈ l, x.k = 0 := fun x hx => by
  by_cases e : x.k = 0
  · exact e
  · have := nullsN_lt hx e
    omega
/-- What is known, told without going through. -/
structure Knows (l : List V) (z : Zo) : Prop where
  least : First cmpV l z.a
  most : First cmpW l z.b
  nulls : z.n = (nullsN l : Int)
  many : z.m = (l.length : Int)
theorem Knows.unique {l l' : List V} {z z' : Zo} (h : Knows l z) (h' : Knows l' z') (hp : ∀ x, x ∈ l ↔ x ∈ l') (hn : nullsN l = nullsN l') (hm : l.length = l'.length) : z = z' := by
  have e1 := First.unique isCmp_V hp h.least h'.least
  have e2 := First.unique isCmp_W hp h.most h'.most
  have e3 := h.nulls
  have e4 := h.many
  have e5 := h'.nulls
  have e6 := h'.many
  obtain ⟨a, b, n, m⟩ := z
  obtain ⟨a', b', n', m'⟩ := z'
  simp only at *
  rw [e1, e2, show n = n' by omega, show m = m' by omega]
theorem knows_nil : Knows [] Zo.zero := ⟨.inl ⟨rfl, fun x hx => by cases hx⟩, .inl ⟨rfl, fun x hx => by cases hx⟩, rfl, rfl⟩
theorem knows_one (v : V) : Knows [v] (oneZ v) := by
  refine ⟨First.one isCmp_V v, First.one isCmp_W v, ?_, rfl⟩
  unfold oneZ nullsN
  by_cases h : v.k = 0
  · simp [h]
  · simp [h]
theorem Knows.merge {x y : List V} {p q : Zo} (h : Knows x p) (h' : Knows y q) (hl : x.length + y.length ≤ 1000000) : Knows (x ++ y) (mergeZ p q) := by
  have e1 := nullsN_le x
  have e2 := nullsN_le y
  have e3 := h.nulls
  have e4 := h.many
  have e5 := h'.nulls
  have e6 := h'.many
  refine ⟨First.both isCmp_V h.least h'.least, First.both isCmp_W h.most h'.most, ?_, ?_⟩
  · show wrap64 _ = _
    rw [nullsN_append]
    unfold wrap64
    omega
  · show wrap64 _ = _
    rw [List.length_append]
    unfold wrap64
    omega
theorem knows_of (l : List V) (hl : l.length ≤ 1000000) : Knows l (ofZ l) := by
  have h : ∀ j, j ≤ l.length → Knows (l.take j) (ofZ (l.take j)) := by
    intro j
    induction j with
    | zero => intro _; exact knows_nil
    | succ j ih =>
      intro hj
      have hjl : j < l.length := by omega
      rw [List.take_succ_eq_append_getElem hjl, ofZ_snoc]
      exact (ih (by omega)).merge (knows_one _) (by rw [List.length_take, List.length_singleton]; omega)
  have e := h l.length (Nat.le_refl _)
  rwa [List.take_of_length_le (Nat.le_refl _)] at e
theorem ofZ_fits {l : List V} (h : ∀ v ∈ l, v.fits) : (ofZ l).fits := by
  have h2 : ∀ j, j ≤ l.length → (ofZ (l.take j)).fits := by
    intro j
    induction j with
    | zero => intro _; exact zero_fits
    | succ j ih =>
      intro hj
      have hjl : j < l.length := by omega
      rw [List.take_succ_eq_append_getElem hjl, ofZ_snoc]
      exact mergeZ_fits (ih (by omega)) (oneZ_fits (h _ (List.getElem_mem hjl)))
  have e := h2 l.length (Nat.le_refl _)
  rwa [List.take_of_length_le (Nat.le_refl _)] at e
/-- Texts of what is known are those of values. -/
def Zo.small (z : Zo) (n : Nat) : Prop := z.a.s.length ≤ n ∧ z.b.s.length ≤ n
theorem nz_small {v : V} {n : Nat} (h : v.s.length ≤ n) : (nz v).s.length ≤ n := by
  unfold nz
  split
  · exact Nat.zero_le _
  · exact h
theorem pick_small {c : V → V → Int} {a b : V} {n : Nat} (ha : a.s.length ≤ n) (hb : b.s.length ≤ n) : (pick c a b).s.length ≤ n := by
  unfold pick
  split
  · exact nz_small hb
  · exact nz_small ha
theorem mergeZ_small {p q : Zo} {n : Nat} (hp : p.small n) (hq : q.small n) : (mergeZ p q).small n := ⟨pick_small hp.1 hq.1, pick_small hp.2 hq.2⟩
theorem ofZ_small {l : List V} {n : Nat} (h : ∀ v ∈ l, v.s.length ≤ n) : (ofZ l).small n := by
  have h2 : ∀ j, j ≤ l.length → (ofZ (l.take j)).small n := by
    intro j
    induction j with
    | zero => intro _; exact ⟨Nat.zero_le _, Nat.zero_le _⟩
    | succ j ih =>
      intro hj
      have hjl : j < l.length := by omega
      rw [List.take_succ_eq_append_getElem hjl, ofZ_snoc]
      have e := h _ (List.getElem_mem hjl)
      exact mergeZ_small (ih (by omega)) ⟨nz_small e, nz_small e⟩
  have e := h2 l.length (Nat.le_refl _)
  rwa [List.take_of_length_le (Nat.le_refl _)] at e

/-! ### What the law of parts asks -/

theorem merge_parts {x y : List V} (h : x.length + y.length ≤ 1000000) : mergeZ (ofZ x) (ofZ y) = ofZ (x ++ y) :=
  Knows.unique ((knows_of x (by omega)).merge (knows_of y (by omega)) h) (knows_of (x ++ y) (by rw [List.length_append]; exact h)) (fun _ => Iff.rfl) rfl rfl
theorem merge_turned {x y : List V} (h : x.length + y.length ≤ 1000000) : mergeZ (ofZ y) (ofZ x) = ofZ (x ++ y) :=
  Knows.unique ((knows_of y (by omega)).merge (knows_of x (by omega)) (by omega)) (knows_of (x ++ y) (by rw [List.length_append]; exact h)) (fun z => by rw [List.mem_append, List.mem_append, or_comm]) (by rw [nullsN_append, nullsN_append, Nat.add_comm]) (by rw [List.length_append, List.length_append, Nat.add_comm])
theorem merge_none {x : List V} (h : x.length ≤ 1000000) : mergeZ (ofZ x) Zo.zero = ofZ x := by
  have e := merge_parts (x := x) (y := []) (by simpa using h)
  rwa [List.append_nil] at e
theorem none_merge {x : List V} (h : x.length ≤ 1000000) : mergeZ Zo.zero (ofZ x) = ofZ x := merge_parts (x := []) (y := x) (by simpa using h)

/-! ### What may be known -/

def someV (k : Int) (v : V) : Prop := rightV v = true ∧ v.k = k
instance (k : Int) (v : V) : Decidable (someV k v) := by unfold someV; exact inferInstance
def rightZ (k : Int) (z : Zo) : Prop :=
  (1 ≤ k ∧ k ≤ 3) ∧ (0 ≤ z.m ∧ z.m ≤ 4096) ∧ (0 ≤ z.n ∧ z.n ≤ z.m) ∧
    ((z.n = z.m ∧ z.a = V.zero ∧ z.b = V.zero) ∨ (z.n ≠ z.m ∧ someV k z.a ∧ someV k z.b ∧ cmpV z.a z.b ≤ 0 ∧ (z.n + 1 < z.m ∨ z.a = z.b)))
instance (k : Int) (z : Zo) : Decidable (rightZ k z) := by unfold rightZ; exact inferInstance
theorem right_zero : rightV V.zero = true := by decide
theorem rightZ_vals {k : Int} {z : Zo} (h : rightZ k z) : rightV z.a = true ∧ rightV z.b = true := by
  rcases h.2.2.2 with ⟨-, h1, h2⟩ | ⟨-, h1, h2, -⟩
  · rw [h1, h2]; exact ⟨right_zero, right_zero⟩
  · exact ⟨h1.1, h2.1⟩
theorem right_len {v : V} (h : rightV v = true) : v.s.length ≤ 1024 := by
  rcases (rightV_iff v).1 h with h | h | h | h
  · rw [h.2.2]; exact Nat.zero_le _
  · rw [h.2.2]; exact Nat.zero_le _
  · rw [h.2]; exact Nat.zero_le _
  · exact h.2.2
/-- What is known of a column's values may be. -/
theorem rightZ_of {k : Int} {l : List V} (hk : 1 ≤ k ∧ k ≤ 3) (hl : l.length ≤ 4096) (h : ∀ v ∈ l, rightV v = true ∧ (v.k = 0 ∨ v.k = k)) : rightZ k (ofZ l) := by
  have e := knows_of l (by omega)
  have e1 := nullsN_le l
  have e2 := e.nulls
  have e3 := e.many
  refine ⟨hk, by omega, by omega, ?_⟩
  by_cases hn : nullsN l = l.length
  · have h0 := nullsN_all hn
    refine .inl ⟨by omega, ?_, ?_⟩
    · rcases e.least with g | g
      · exact g.1
      · exact absurd (h0 _ g.2.1) g.1
    · rcases e.most with g | g
      · exact g.1
      · exact absurd (h0 _ g.2.1) g.1
  · have hne : ¬ ∀ x ∈ l, x.k = 0 := fun h0 => hn (by
      unfold nullsN
      rw [List.filter_eq_self.2 fun x hx => decide_eq_true (h0 x hx)])
    rcases e.least with g | ⟨g1, g2, g3⟩
    · exact absurd g.2 hne
    rcases e.most with f | ⟨f1, f2, f3⟩
    · exact absurd f.2 hne
    refine .inr ⟨by omega, ⟨(h _ g2).1, ((h _ g2).2).resolve_left g1⟩, ⟨(h _ f2).1, ((h _ f2).2).resolve_left f1⟩, ?_, ?_⟩
    · have a1 := g3 _ f2 f1
      have a2 := cmpV_neg (ofZ l).a (ofZ l).b
      omega
    · by_cases h2 : (ofZ l).n + 1 < (ofZ l).m
      · exact .inl h2
      · right
        -- one value alone is something: it is both
        have hcount : ((l.filter fun v => !decide (v.k = 0)).length : Int) = 1 := by
          have e4 : nullsN l + (l.filter fun v => !decide (v.k = 0)).length = l.length := by
            unfold nullsN
            clear e hne hn e1 e2 e3 g1 g2 g3 f1 f2 f3 h2 h hl
            induction l with
            | nil => rfl
            | cons x l ih =>
              by_cases hx : x.k = 0
              · simp [hx] at ih ⊢; omega
              · simp [hx] at ih ⊢; omega
          omega
        have m1 : (ofZ l).a ∈ l.filter fun v => !decide (v.k = 0) := List.mem_filter.2 ⟨g2, by simp [g1]⟩
        have m2 : (ofZ l).b ∈ l.filter fun v => !decide (v.k = 0) := List.mem_filter.2 ⟨f2, by simp [f1]⟩
        generalize (l.filter fun v => !decide (v.k = 0)) = q at hcount m1 m2
        match q, hcount, m1, m2 with
        | [y], _, m1, m2 => rw [List.mem_singleton.1 m1, List.mem_singleton.1 m2]
        | [], hcount, _, _ => simp at hcount
        | _ :: _ :: _, hcount, _, _ => simp at hcount; omega

/-! ### Bytes -/

def putZ (z : Zo) : List UInt8 := ((encV z.a ++ encV z.b) ++ enc (zig z.n)) ++ enc (zig z.m)
/-- These bytes are that, put. -/
def IsPutZ (k : Int) (b : List UInt8) (z : Zo) : Prop := z.fits ∧ rightZ k z ∧ putZ z = b
theorem keepV_right {v : V} (h : rightV v = true) : keepV v = v := if_pos h
/-- What one reads off the front, one behind the other. -/
theorem IsPutZ.front {k : Int} {b : List UInt8} {z : Zo} (h : IsPutZ k b z) : ∃ r s t, takeV b = some (z.a, r) ∧ takeV r = some (z.b, s) ∧ tk s = (zig z.n, t, false) ∧ tk t = (zig z.m, [], false) := by
  obtain ⟨hf, hr, rfl⟩ := h
  obtain ⟨r1, r2⟩ := rightZ_vals hr
  refine ⟨encV z.b ++ (enc (zig z.n) ++ enc (zig z.m)), enc (zig z.n) ++ enc (zig z.m), enc (zig z.m), ?_, ?_, ?_, ?_⟩
  · unfold putZ
    rw [List.append_assoc, List.append_assoc, takeV_enc _ hf.a, keepV_right r1]
  · rw [takeV_enc _ hf.b, keepV_right r2]
  · exact tk_enc _ _ (zig_lt _ hf.n0 hf.n1)
  · have e := tk_enc (zig z.m) [] (zig_lt _ hf.m0 hf.m1)
    rwa [List.append_nil] at e
theorem putZ_inj {k : Int} {b : List UInt8} {z z' : Zo} (h : IsPutZ k b z) (h' : IsPutZ k b z') : z = z' := by
  obtain ⟨r, s, t, a1, a2, a3, a4⟩ := h.front
  obtain ⟨r', s', t', c1, c2, c3, c4⟩ := h'.front
  rw [a1] at c1
  simp only [Option.some.injEq, Prod.mk.injEq] at c1
  obtain ⟨e1, rfl⟩ := c1
  rw [a2] at c2
  simp only [Option.some.injEq, Prod.mk.injEq] at c2
  obtain ⟨e2, rfl⟩ := c2
  rw [a3] at c3
  simp only [Prod.mk.injEq, and_true] at c3
  obtain ⟨e3, rfl⟩ := c3
  rw [a4] at c4
  simp only [Prod.mk.injEq, and_true] at c4
  have f := h.1
  have f' := h'.1
  have e5 := congrArg zag e3
  have e6 := congrArg zag c4
  rw [zag_zig _ f.n0 f.n1, zag_zig _ f'.n0 f'.n1] at e5
  rw [zag_zig _ f.m0 f.m1, zag_zig _ f'.m0 f'.m1] at e6
  obtain ⟨za, zb, zn, zm⟩ := z
  obtain ⟨za', zb', zn', zm'⟩ := z'
  simp only at *
  rw [e1, e2, e5, e6]
open Classical in
noncomputable def takeZ (k : Int) (b : List UInt8) : Zo × Int := if h : ∃ z, IsPutZ k b z then (h.choose, 0) else (Zo.zero, 6)
theorem takeZ_yes {k : Int} {b : List UInt8} {z : Zo} (h : IsPutZ k b z) : takeZ k b = (z, 0) := by
  have hex : ∃ z, IsPutZ k b z := ⟨z, h⟩
  unfold takeZ
  rw [dif_pos hex, putZ_inj hex.choose_spec h]
theorem takeZ_no {k : Int} {b : List UInt8} (h : ¬ ∃ z, IsPutZ k b z) : takeZ k b = (Zo.zero, 6) := by
  unfold takeZ
  rw [dif_neg h]
/-- Take as a whole. -/
noncomputable def takenZ (k : Int) (b : List UInt8) : Zo × Int := if ¬ (1 ≤ k ∧ k ≤ 3) then (Zo.zero, 1) else takeZ k b
theorem putZ_len (z : Zo) : (putZ z).length ≤ 4018 := by
  unfold putZ
  have h1 := encV_le z.a
  have h2 := encV_le z.b
  have h3 := enc_length (zig z.n)
  have h4 := enc_length (zig z.m)
  simp only [List.length_append]
  omega

/-! ### What may come of it -/

def unkZ (z : Zo) (v : V) : Bool := decide (0 < z.n) || (decide (v.k = 0) && decide (0 < z.m))
def hasZ (z : Zo) (v : V) : Bool := decide (z.n < z.m) && !decide (v.k = 0)
def equalZ (z : Zo) (v : V) : Bool × Bool × Bool := (hasZ z v && (!decide (z.a = v) || !decide (z.b = v)), unkZ z v, hasZ z v && (decide (0 ≤ cmpV v z.a) && decide (cmpV v z.b ≤ 0)))
def lessZ (z : Zo) (v : V) : Bool × Bool × Bool := (hasZ z v && decide (0 ≤ cmpV z.b v), unkZ z v, hasZ z v && decide (cmpV z.a v < 0))
def nullZ (z : Zo) : Bool × Bool × Bool := (decide (z.n < z.m), false, decide (0 < z.n))
def tripV (t : Bool × Bool × Bool) : Value := .agg #[.bool t.1, .bool t.2.1, .bool t.2.2]
/-- What may come of values of which one is w. -/
def atT (t : Bool × Bool × Bool) (i : Int) : Bool := if i = 0 then t.1 else if i = 1 then t.2.1 else t.2.2
theorem sure_of {l : List V} {v w : V} (hl : l.length ≤ 1000000) (hw : w ∈ l) :
    atT (equalZ (ofZ l) v) (equalT w v) = true ∧ atT (lessZ (ofZ l) v) (lessT w v) = true ∧ (w.k = 0 → (nullZ (ofZ l)).2.2 = true) ∧ (w.k ≠ 0 → (nullZ (ofZ l)).1 = true) := by
  have e := knows_of l hl
  have e1 := nullsN_le l
  have e2 := e.nulls
  have e3 := e.many
  have hpos := List.length_pos_of_mem hw
  generalize ofZ l = z at e e2 e3 ⊢
  by_cases hw0 : w.k = 0
  · have h0 := nullsN_pos hw hw0
    have hu : unkZ z v = true := by unfold unkZ; rw [decide_eq_true (show 0 < z.n by omega)]; rfl
    have t1 : equalT w v = 1 := if_pos (.inl hw0)
    have t2 : lessT w v = 1 := if_pos (.inl hw0)
    rw [t1, t2]
    refine ⟨hu, hu, fun _ => ?_, fun h => absurd hw0 h⟩
    exact decide_eq_true (by omega)
  · have h0 := nullsN_lt hw hw0
    have hd : decide (z.n < z.m) = true := decide_eq_true (by omega)
    refine ⟨?_, ?_, fun h => absurd h hw0, fun _ => hd⟩
    · by_cases hv : v.k = 0
      · have t1 : equalT w v = 1 := if_pos (.inr hv)
        rw [t1]
        show unkZ z v = true
        unfold unkZ
        rw [decide_eq_true hv, decide_eq_true (show 0 < z.m by omega)]
        simp
      · have hh : hasZ z v = true := by unfold hasZ; rw [hd, decide_eq_false hv]; rfl
        rcases e.least with g | ⟨g1, g2, g3⟩
        · exact absurd (g.2 w hw) hw0
        rcases e.most with f | ⟨f1, f2, f3⟩
        · exact absurd (f.2 w hw) hw0
        have a1 := g3 w hw hw0
        have a2 : ¬ cmpV z.b w < 0 := f3 w hw hw0
        have a3 := cmpV_neg z.b w
        by_cases hq : w = v
        · have t1 : equalT w v = 2 := by
            unfold equalT knownT
            rw [if_neg (by rintro (h | h); exact hw0 h; exact hv h), decide_eq_true (cmpV_zero.2 hq), if_pos rfl]
          rw [t1]
          subst hq
          show (hasZ z w && _) = true
          rw [hh, decide_eq_true (show 0 ≤ cmpV w z.a by omega), decide_eq_true (show cmpV w z.b ≤ 0 by omega)]
          rfl
        · have t1 : equalT w v = 0 := by
            unfold equalT knownT
            rw [if_neg (by rintro (h | h); exact hw0 h; exact hv h), decide_eq_false (fun h => hq (cmpV_zero.1 h)), if_neg (by decide)]
          rw [t1]
          show (hasZ z v && (!decide (z.a = v) || !decide (z.b = v))) = true
          rw [hh, Bool.true_and]
          by_cases ha : z.a = v
          · by_cases hb : z.b = v
            · exfalso
              rw [ha] at a1
              rw [hb] at a2 a3
              exact hq (cmpV_zero.1 (by omega))
            · rw [decide_eq_false hb]; simp
          · rw [decide_eq_false ha]; rfl
    · by_cases hv : v.k = 0
      · have t1 : lessT w v = 1 := if_pos (.inr hv)
        rw [t1]
        show unkZ z v = true
        unfold unkZ
        rw [decide_eq_true hv, decide_eq_true (show 0 < z.m by omega)]
        simp
      · have hh : hasZ z v = true := by unfold hasZ; rw [hd, decide_eq_false hv]; rfl
        rcases e.least with g | ⟨g1, g2, g3⟩
        · exact absurd (g.2 w hw) hw0
        rcases e.most with f | ⟨f1, f2, f3⟩
        · exact absurd (f.2 w hw) hw0
        have a1 := g3 w hw hw0
        have a2 : ¬ cmpV z.b w < 0 := f3 w hw hw0
        by_cases hq : cmpV w v < 0
        · have t1 : lessT w v = 2 := by
            unfold lessT knownT
            rw [if_neg (by rintro (h | h); exact hw0 h; exact hv h), decide_eq_true hq, if_pos rfl]
          rw [t1]
          show (hasZ z v && decide (cmpV z.a v < 0)) = true
          have h3 : cmpV z.a v < 0 := by
            by_cases hx : z.a = w
            · rw [hx]; exact hq
            · have a4 := cmpV_neg z.a w
              have a5 : cmpV z.a w ≠ 0 := fun h => hx (cmpV_zero.1 h)
              exact isCmp_V.trans z.a w v (by omega) hq
          rw [hh, decide_eq_true h3]
          rfl
        · have t1 : lessT w v = 0 := by
            unfold lessT knownT
            rw [if_neg (by rintro (h | h); exact hw0 h; exact hv h), decide_eq_false hq, if_neg (by decide)]
          rw [t1]
          show (hasZ z v && decide (0 ≤ cmpV z.b v)) = true
          have h3 : 0 ≤ cmpV z.b v := by
            by_cases hx : z.b = w
            · rw [hx]; omega
            · by_cases hlt : cmpV z.b v < 0
              · exfalso
                have a4 := cmpV_neg z.b w
                have a5 : cmpV z.b w ≠ 0 := fun h => hx (cmpV_zero.1 h)
                exact hq (isCmp_V.trans w z.b v (by omega) hlt)
              · omega
          rw [hh, decide_eq_true h3]
          rfl
theorem none_known (v : V) : equalZ (ofZ []) v = (false, false, false) ∧ lessZ (ofZ []) v = (false, false, false) ∧ nullZ (ofZ []) = (false, false, false) := by
  refine ⟨?_, ?_, rfl⟩
  · show (_, _, _) = _
    simp [hasZ, unkZ, ofZ, Zo.zero]
  · show (_, _, _) = _
    simp [hasZ, unkZ, ofZ, Zo.zero]
end
section
open Go.RowKit

theorem zig_of_zag {n : Nat} (h : n < 2 ^ 64) : zig (zag n) = n := by
  unfold zag
  split
  · have := zig_neg (-1 - ((n / 2 : Nat) : Int)) (by omega)
    omega
  · have := zig_pos ((n / 2 : Nat) : Int) (by omega)
    omega
/-- What a value taken off the front was put as. -/
theorem takeV_sound {b m : List UInt8} {v : V} (h : takeV b = some (v, m)) : v.fits ∧ v.s.length ≤ 1024 ∧ rightV v = true ∧ encV v ++ m = b := by
  cases b with
  | nil => cases h
  | cons c t =>
    rw [takeV] at h
    by_cases h0 : c = 0
    · rw [if_pos h0] at h
      simp only [Option.some.injEq, Prod.mk.injEq] at h
      obtain ⟨rfl, rfl⟩ := h
      exact ⟨⟨by decide, by decide, by decide, by decide⟩, by decide, by decide, by rw [h0]; rfl⟩
    · rw [if_neg h0] at h
      by_cases h1 : c = 1 ∨ c = 2
      · rw [if_pos h1] at h
        by_cases hf : (front t).2 = 0
        · rw [if_pos hf] at h; cases h
        · rw [if_neg hf] at h
          by_cases hr : rightV ⟨(c.toNat : Int), zag (front t).1, []⟩ = true
          · rw [if_pos hr] at h
            simp only [Option.some.injEq, Prod.mk.injEq] at h
            obtain ⟨rfl, rfl⟩ := h
            obtain ⟨s1, s2, s3⟩ := front_sound t (front t).1 (front t).2 rfl hf
            have hz := tk_zag_fits s1
            have hc : (c.toNat : Int) = 1 ∨ (c.toNat : Int) = 2 := by
              rcases h1 with h1 | h1
              · left; rw [h1]; rfl
              · right; rw [h1]; rfl
            refine ⟨⟨by show (0 : Int) ≤ (c.toNat : Int); omega, by show (c.toNat : Int) ≤ 255; omega, hz.1, hz.2⟩, Nat.zero_le _, hr, ?_⟩
            unfold encV
            rw [if_pos hr]
            show UInt8.ofNat (c.toNat : Int).toNat :: (if (c.toNat : Int) = 1 ∨ (c.toNat : Int) = 2 then _ else _) ++ _ = _
            rw [if_pos hc, zig_of_zag s1, Int.toNat_natCast, UInt8.ofNat_toNat, List.cons_append, ← s3]
          · rw [if_neg hr] at h; cases h
      · rw [if_neg h1] at h
        by_cases h3 : c = 3
        · rw [if_pos h3] at h
          by_cases hf : (front t).2 = 0
          · rw [if_pos hf] at h; cases h
          · rw [if_neg hf] at h
            by_cases hn : (front t).1 ≤ 1024 ∧ (front t).1 ≤ (t.drop (front t).2).length
            · rw [if_pos hn] at h
              simp only [Option.some.injEq, Prod.mk.injEq] at h
              obtain ⟨rfl, rfl⟩ := h
              obtain ⟨s1, s2, s3⟩ := front_sound t (front t).1 (front t).2 rfl hf
              have hl : ((t.drop (front t).2).take (front t).1).length = (front t).1 := by rw [List.length_take]; omega
              have hr : rightV ⟨3, 0, (t.drop (front t).2).take (front t).1⟩ = true := (rightV_iff _).2 (.inr (.inr (.inr ⟨rfl, rfl, by show ((t.drop (front t).2).take (front t).1).length ≤ 1024; omega⟩)))
              refine ⟨⟨by show (0 : Int) ≤ 3; decide, by show (3 : Int) ≤ 255; decide, by show (-9223372036854775808 : Int) ≤ 0; decide, by show (0 : Int) ≤ 9223372036854775807; decide⟩, by show ((t.drop (front t).2).take (front t).1).length ≤ 1024; omega, hr, ?_⟩
              unfold encV
              rw [if_pos hr]
              show UInt8.ofNat (3 : Int).toNat :: (if (3 : Int) = 1 ∨ (3 : Int) = 2 then _ else if (3 : Int) = 3 then enc ((t.drop (front t).2).take (front t).1).length ++ (t.drop (front t).2).take (front t).1 else _) ++ _ = _
              rw [if_neg (by decide), if_pos rfl, hl, List.cons_append, List.append_assoc, List.take_append_drop, ← s3, h3]
              rfl
            · rw [if_neg hn] at h; cases h
        · rw [if_neg h3] at h; cases h
theorem tk_whole {l m : List UInt8} {n : Nat} (h : tk l = (n, m, false)) : n < 2 ^ 64 ∧ enc n ++ m = l := by
  by_cases hf : (front l).2 = 0
  · rw [tk_no hf] at h
    simp at h
  · rw [tk_ok hf] at h
    simp only [Prod.mk.injEq, and_true] at h
    obtain ⟨rfl, rfl⟩ := h
    obtain ⟨s1, s2, s3⟩ := front_sound l (front l).1 (front l).2 rfl hf
    exact ⟨s1, s3.symm⟩
theorem tk_bad_nil {l : List UInt8} (h : (tk l).2.2 = true) : (tk l).2.1 = [] := by rw [tk_bad h]

/-- Reading all four, one behind the other. -/
def numsZ (a b : V) (s : List UInt8) : Option Zo := if (tk (tk s).2.1).2.2 = false ∧ (tk (tk s).2.1).2.1.length = 0 then some ⟨a, b, zag (tk s).1, zag (tk (tk s).2.1).1⟩ else none
theorem numsZ_put {a b : V} {s : List UInt8} {z : Zo} (h : numsZ a b s = some z) : z = ⟨a, b, zag (tk s).1, zag (tk (tk s).2.1).1⟩ ∧ enc (zig z.n) ++ enc (zig z.m) = s ∧ (-9223372036854775808 ≤ z.n ∧ z.n ≤ 9223372036854775807) ∧ -9223372036854775808 ≤ z.m ∧ z.m ≤ 9223372036854775807 := by
  unfold numsZ at h
  by_cases hc : (tk (tk s).2.1).2.2 = false ∧ (tk (tk s).2.1).2.1.length = 0
  · rw [if_pos hc] at h
    simp only [Option.some.injEq] at h
    subst h
    have h1 : (tk s).2.2 = false := by
      cases e : (tk s).2.2 with
      | false => rfl
      | true =>
        have := tk_bad_nil e
        rw [this] at hc
        cases hc.1
    have e1 : tk s = ((tk s).1, (tk s).2.1, false) := by rw [← h1]
    have e2 : tk (tk s).2.1 = ((tk (tk s).2.1).1, [], false) := by
      have := List.length_eq_zero_iff.1 hc.2
      rw [← this, ← hc.1]
    obtain ⟨s1, s2⟩ := tk_whole e1
    obtain ⟨s3, s4⟩ := tk_whole e2
    refine ⟨rfl, ?_, tk_zag_fits s1, tk_zag_fits s3⟩
    show enc (zig (zag (tk s).1)) ++ enc (zig (zag (tk (tk s).2.1).1)) = s
    rw [zig_of_zag s1, zig_of_zag s3]
    rw [List.append_nil] at s4
    rw [s4, s2]
  · rw [if_neg hc] at h; cases h
/-- Put, and read. -/
theorem takeZ_of {k : Int} {b r s : List UInt8} {v v' : V} {z : Zo} (h1 : takeV b = some (v, r)) (h2 : takeV r = some (v', s)) (h3 : numsZ v v' s = some z) : z.fits ∧ z.small 1024 ∧ putZ z = b ∧ takeZ k b = if rightZ k z then (z, 0) else (Zo.zero, 6) := by
  obtain ⟨a1, a2, a3, a4⟩ := takeV_sound h1
  obtain ⟨b1, b2, b3, b4⟩ := takeV_sound h2
  obtain ⟨c0, c1, c2, c3⟩ := numsZ_put h3
  have ea : z.a = v := by rw [c0]
  have eb : z.b = v' := by rw [c0]
  have hf : z.fits := ⟨by rw [ea]; exact a1, by rw [eb]; exact b1, c2.1, c2.2, c3.1, c3.2⟩
  have hp : putZ z = b := by
    unfold putZ
    rw [ea, eb, List.append_assoc, List.append_assoc, c1, b4, a4]
  refine ⟨hf, ⟨by rw [ea]; exact a2, by rw [eb]; exact b2⟩, hp, ?_⟩
  by_cases hr : rightZ k z
  · rw [if_pos hr]
    exact takeZ_yes ⟨hf, hr, hp⟩
  · rw [if_neg hr]
    refine takeZ_no fun ⟨y, hy⟩ => hr ?_
    obtain ⟨r', s', t', d1, d2, d3, d4⟩ := hy.front
    rw [h1] at d1
    simp only [Option.some.injEq, Prod.mk.injEq] at d1
    obtain ⟨e1, rfl⟩ := d1
    rw [h2] at d2
    simp only [Option.some.injEq, Prod.mk.injEq] at d2
    obtain ⟨e2, rfl⟩ := d2
    have e3 : zag (tk s).1 = y.n := by rw [d3]; exact zag_zig _ hy.1.n0 hy.1.n1
    have e4 : zag (tk (tk s).2.1).1 = y.m := by rw [d3]; show zag (tk t').1 = y.m; rw [d4]; exact zag_zig _ hy.1.m0 hy.1.m1
    have : z = y := by rw [c0, e1, e2, e3, e4]
    rw [this]
    exact hy.2.1
theorem takeZ_none1 {k : Int} {b : List UInt8} (h : takeV b = none) : takeZ k b = (Zo.zero, 6) := takeZ_no fun ⟨y, hy⟩ => by
  obtain ⟨r, s, t, d1, _⟩ := hy.front
  rw [h] at d1
  cases d1
theorem takeZ_none2 {k : Int} {b r : List UInt8} {v : V} (h1 : takeV b = some (v, r)) (h : takeV r = none) : takeZ k b = (Zo.zero, 6) := takeZ_no fun ⟨y, hy⟩ => by
  obtain ⟨r', s, t, d1, d2, _⟩ := hy.front
  rw [h1] at d1
  simp only [Option.some.injEq, Prod.mk.injEq] at d1
  obtain ⟨e1, rfl⟩ := d1
  rw [h] at d2
  cases d2
theorem takeZ_none3 {k : Int} {b r s : List UInt8} {v v' : V} (h1 : takeV b = some (v, r)) (h2 : takeV r = some (v', s)) (h : ¬ ((tk (tk s).2.1).2.2 = false ∧ (tk (tk s).2.1).2.1.length = 0)) : takeZ k b = (Zo.zero, 6) := takeZ_no fun ⟨y, hy⟩ => by
  obtain ⟨r', s', t', d1, d2, d3, d4⟩ := hy.front
  rw [h1] at d1
  simp only [Option.some.injEq, Prod.mk.injEq] at d1
  obtain ⟨e1, rfl⟩ := d1
  rw [h2] at d2
  simp only [Option.some.injEq, Prod.mk.injEq] at d2
  obtain ⟨e2, rfl⟩ := d2
  refine h ?_
  rw [d3]
  show (tk t').2.2 = false ∧ (tk t').2.1.length = 0
  rw [d4]
  exact ⟨rfl, rfl⟩
end
end Go.Proofs.YtfnmcdjfdhdlmaaGreatDoor

/-
  Conditions, over lists of nodes. No program.
-/
namespace Go.Proofs.YtfnmcdjfdhdlmaaGreatDoor
open Go.RowKit

/-- A node of a condition (True 1, And 2, Or 3, Not 4, Equal 5, Less 6, Like 7, IsNull 8). -/
structure Nd where
  op : Int
  col : Int
  kids : Int
  v : V
deriving DecidableEq
def Nd.cells (n : Nd) : List Value := [.int .u8 n.op, .int .i64 n.col, .int .i64 n.kids, .int .u8 n.v.k, .int .i64 n.v.n, .string ⟨n.v.s.toArray⟩]
def Nd.val (n : Nd) : Value := .agg #[.int .u8 n.op, .int .i64 n.col, .int .i64 n.kids, .int .u8 n.v.k, .int .i64 n.v.n, .string ⟨n.v.s.toArray⟩]
structure Nd.fits (n : Nd) : Prop where
  op0 : 0 ≤ n.op
  op1 : n.op ≤ 255
  c0 : -9223372036854775808 ≤ n.col
  c1 : n.col ≤ 9223372036854775807
  k0 : -9223372036854775808 ≤ n.kids
  k1 : n.kids ≤ 9223372036854775807
  v : n.v.fits
/-- Does a node ask a column? -/
def colN (n : Nd) : Bool := decide (5 ≤ n.op ∧ n.op ≤ 8)
/-- How many parts a node has. -/
def kidsN (n : Nd) : Nat := if n.op = 4 then 1 else n.kids.toNat

/-- What is left behind k nodes with their parts. -/
def endK : Nat → List Nd → Option (List Nd)
  | 0, l => some l
  | _ + 1, [] => none
  | k + 1, n :: t => endK (k + kidsN n) t
theorem endK_zero (l : List Nd) : endK 0 l = some l := by cases l <;> rfl
theorem endK_nil (k : Nat) : endK (k + 1) [] = none := rfl
theorem endK_cons (k : Nat) (n : Nd) (t : List Nd) : endK (k + 1) (n :: t) = endK (k + kidsN n) t := rfl
theorem endK_add (l : List Nd) : ∀ a b, endK (a + b) l = (endK a l).bind (endK b) := by
  induction l with
  | nil =>
    intro a b
    cases a with
    | zero => rw [Nat.zero_add, endK_zero]; rfl
    | succ a => rw [show a + 1 + b = (a + b) + 1 by omega, endK_nil, endK_nil]; rfl
  | cons n t ih =>
    intro a b
    cases a with
    | zero => rw [Nat.zero_add, endK_zero]; rfl
    | succ a => rw [show a + 1 + b = (a + b) + 1 by omega, endK_cons, endK_cons, show a + b + kidsN n = (a + kidsN n) + b by omega, ih]
theorem endK_append (l s : List Nd) : ∀ k r, endK k l = some r → endK k (l ++ s) = some (r ++ s) := by
  induction l with
  | nil =>
    intro k r h
    cases k with
    | zero => rw [endK_zero] at h ⊢; simp only [Option.some.injEq] at h; rw [← h]
    | succ k => rw [endK_nil] at h; cases h
  | cons n t ih =>
    intro k r h
    cases k with
    | zero => rw [endK_zero] at h ⊢; simp only [Option.some.injEq] at h; rw [← h]
    | succ k =>
      rw [endK_cons] at h
      rw [List.cons_append, endK_cons]
      exact ih _ _ h
theorem endK_len (l : List Nd) : ∀ k r, endK k l = some r → r.length + k ≤ l.length := by
  induction l with
  | nil =>
    intro k r h
    cases k with
    | zero => rw [endK_zero] at h; simp only [Option.some.injEq] at h; rw [← h]; simp
    | succ k => rw [endK_nil] at h; cases h
  | cons n t ih =>
    intro k r h
    cases k with
    | zero => rw [endK_zero] at h; simp only [Option.some.injEq] at h; rw [← h]; simp
    | succ k =>
      rw [endK_cons] at h
      have := ih _ _ h
      rw [List.length_cons]
      omega

/-! ### From the last node to the first, with a stack -/

section
variable {α : Type} (comb : Nd → List α → α)
/-- The stack behind each node, the last one first. -/
def stk : List Nd → List α
  | [] => []
  | n :: t => comb n ((stk t).take (kidsN n)) :: (stk t).drop (kidsN n)
theorem stk_cons (n : Nd) (t : List Nd) : stk comb (n :: t) = comb n ((stk comb t).take (kidsN n)) :: (stk comb t).drop (kidsN n) := rfl
/-- k nodes with their parts leave k things. -/
theorem stk_end (l : List Nd) : ∀ k r, endK k l = some r → ∃ vs : List α, vs.length = k ∧ stk comb l = vs ++ stk comb r := by
  induction l with
  | nil =>
    intro k r h
    cases k with
    | zero => rw [endK_zero] at h; simp only [Option.some.injEq] at h; exact ⟨[], rfl, by rw [← h]; rfl⟩
    | succ k => rw [endK_nil] at h; cases h
  | cons n t ih =>
    intro k r h
    cases k with
    | zero => rw [endK_zero] at h; simp only [Option.some.injEq] at h; exact ⟨[], rfl, by rw [← h]; rfl⟩
    | succ k =>
      rw [endK_cons] at h
      obtain ⟨ws, hw, e⟩ := ih _ _ h
      refine ⟨comb n (ws.take (kidsN n)) :: ws.drop (kidsN n), by rw [List.length_cons, List.length_drop]; omega, ?_⟩
      rw [stk_cons, e, List.take_append_of_le_length (by omega), List.drop_append_of_le_length (by omega), List.cons_append]
/-- A whole condition leaves one thing, whatever stands behind it. -/
theorem stk_whole {l : List Nd} (h : endK 1 l = some []) : ∃ v, stk comb l = [v] ∧ ∀ s, stk comb (l ++ s) = v :: stk comb s := by
  obtain ⟨vs, hv, e⟩ := stk_end comb l 1 [] h
  match vs, hv with
  | [v], _ =>
    refine ⟨v, by rw [e]; rfl, fun s => ?_⟩
    have key : ∀ (l : List Nd) k, endK k l = some [] → ∀ s, stk comb (l ++ s) = stk comb l ++ stk comb s := by
      intro l
      induction l with
      | nil => intro k _ s; rfl
      | cons n t ih =>
        intro k hk s
        cases k with
        | zero => rw [endK_zero] at hk; cases hk
        | succ k =>
          rw [endK_cons] at hk
          obtain ⟨ws, hw, ew⟩ := stk_end comb t _ _ hk
          have hl : kidsN n ≤ (stk comb t).length := by rw [ew, List.length_append, hw]; omega
          rw [List.cons_append, stk_cons, stk_cons, ih _ hk s, List.take_append_of_le_length hl, List.drop_append_of_le_length hl, List.cons_append]
    rw [key l 1 h s, e]
    rfl
/-- One node with its parts, as one goes: its parts stand behind it, one behind the other. -/
theorem stk_node {n : Nd} {t r : List Nd} (h : endK 1 (n :: t) = some r) : ∃ vs : List α, vs.length = kidsN n ∧ stk comb t = vs ++ stk comb r ∧ stk comb (n :: t) = comb n vs :: stk comb r := by
  rw [show (1 : Nat) = 0 + 1 from rfl, endK_cons, Nat.zero_add] at h
  obtain ⟨vs, hv, e⟩ := stk_end comb t _ _ h
  refine ⟨vs, hv, e, ?_⟩
  rw [stk_cons, e, List.take_append_of_le_length (by omega), List.drop_append_of_le_length (by omega), List.take_of_length_le (by omega), List.drop_eq_nil_of_le (by omega), List.nil_append]
end

/-! ### Truths of a row -/

/-- What comes of a node, its parts' truths known (lk: whether a text is like a pattern). -/
def combT (lk : List UInt8 → List UInt8 → Bool) (r : List V) (n : Nd) (xs : List Int) : Int :=
  if n.op = 2 then xs.foldl andT 2 else if n.op = 3 then xs.foldl orT 0 else if n.op = 4 then xs.foldl (fun _ x => notT x) 2
  else if n.op = 1 then 2
  else (let v := (r[n.col.toNat]?).getD V.zero
    if n.op = 5 then equalT v n.v else if n.op = 6 then lessT v n.v else if n.op = 8 then (if v.k = 0 then 2 else 0) else if v.k = 0 then 1 else if lk n.v.s v.s = true then 2 else 0)
def evalS (lk : List UInt8 → List UInt8 → Bool) (l : List Nd) (r : List V) : Int := ((stk (combT lk r) l)[0]?).getD 1
def andN : Nd := ⟨2, 0, 2, V.zero⟩
/-- Both, asked together. -/
theorem eval_and (lk : List UInt8 → List UInt8 → Bool) {a b : List Nd} (r : List V) (ha : endK 1 a = some []) (hb : endK 1 b = some []) : endK 1 (andN :: (a ++ b)) = some [] ∧ evalS lk (andN :: (a ++ b)) r = andT (andT 2 (evalS lk a r)) (evalS lk b r) := by
  obtain ⟨x, ex, hx⟩ := stk_whole (combT lk r) ha
  obtain ⟨y, ey, _⟩ := stk_whole (combT lk r) hb
  refine ⟨?_, ?_⟩
  · show endK (1 + 1) (a ++ b) = some []
    rw [endK_add, endK_append a b 1 [] ha, List.nil_append]
    exact hb
  · unfold evalS
    rw [ex, ey, stk_cons, hx b, ey]
    rfl

/-! ### What may be asked -/

/-- May a node be (ok: whether a text is a pattern)? -/
def oneN (ok : List UInt8 → Bool) (kinds : List Int) (n : Nd) : Prop :=
  (1 ≤ n.op ∧ n.op ≤ 8) ∧ (if n.op = 2 ∨ n.op = 3 then 1 ≤ n.kids ∧ n.kids ≤ 40 else n.kids = 0) ∧ (if colN n = true then 0 ≤ n.col ∧ n.col < kinds.length else n.col = 0) ∧
    (if n.op = 5 ∨ n.op = 6 then rightV n.v = true ∧ n.v.k = (kinds[n.col.toNat]?).getD 0
      else if n.op = 7 then rightV n.v = true ∧ n.v.k = 3 ∧ (kinds[n.col.toNat]?).getD 0 = 3 ∧ ok n.v.s = true else n.v = V.zero)
instance (ok : List UInt8 → Bool) (kinds : List Int) (n : Nd) : Decidable (oneN ok kinds n) := by unfold oneN; exact inferInstance
def rightA (ok : List UInt8 → Bool) (kinds : List Int) (l : List Nd) : Prop := (1 ≤ l.length ∧ l.length ≤ 40) ∧ (∀ n ∈ l, oneN ok kinds n) ∧ endK 1 l = some []
instance (ok : List UInt8 → Bool) (kinds : List Int) (l : List Nd) : Decidable (rightA ok kinds l) := by unfold rightA; exact inferInstance
theorem oneN_kids {ok : List UInt8 → Bool} {kinds : List Int} {n : Nd} (h : oneN ok kinds n) : kidsN n ≤ 40 ∧ ((n.op = 2 ∨ n.op = 3) → 1 ≤ kidsN n) ∧ (n.op = 4 → kidsN n = 1) ∧ (n.op ≠ 2 → n.op ≠ 3 → n.op ≠ 4 → kidsN n = 0) := by
  obtain ⟨-, h2, -⟩ := h
  unfold kidsN
  by_cases h4 : n.op = 4
  · rw [if_pos h4]
    exact ⟨by omega, fun _ => Nat.le_refl _, fun _ => rfl, fun _ _ h => absurd h4 h⟩
  · rw [if_neg h4]
    by_cases h23 : n.op = 2 ∨ n.op = 3
    · rw [if_pos h23] at h2
      exact ⟨by omega, fun _ => by omega, fun h => absurd h h4, fun a b _ => by rcases h23 with h | h; exact absurd h a; exact absurd h b⟩
    · rw [if_neg h23] at h2
      exact ⟨by omega, fun h => absurd h h23, fun h => absurd h h4, fun _ _ _ => by omega⟩
theorem andN_one (ok : List UInt8 → Bool) (kinds : List Int) : oneN ok kinds andN := ⟨⟨by decide, by decide⟩, by rw [if_pos (.inl rfl)]; exact ⟨by decide, by decide⟩, by rw [if_neg (by decide)]; rfl, by rw [if_neg (by decide), if_neg (by decide)]; rfl⟩
/-- All together. -/
def isTrueA (l : List Nd) : Bool := match l with | [n] => decide (n.op = 1) | _ => false
def allA (a b : List Nd) : List Nd := if isTrueA b = true then a else if isTrueA a = true then b else andN :: (a ++ b)
theorem truth_tr {x : Int} (h : x = 0 ∨ x = 1 ∨ x = 2) : andT 2 x = x ∧ andT x 2 = x := by
  rcases h with rfl | rfl | rfl <;> exact ⟨by decide, by decide⟩
theorem eval_true (lk : List UInt8 → List UInt8 → Bool) {b : List Nd} (r : List V) (h : isTrueA b = true) (hb : endK 1 b = some []) : evalS lk b r = 2 := by
  unfold isTrueA at h
  split at h
  · rename_i n
    have hop : n.op = 1 := of_decide_eq_true h
    unfold evalS
    rw [stk_cons]
    show combT lk r n _ = 2
    unfold combT
    rw [if_neg (by omega), if_neg (by omega), if_neg (by omega), if_pos hop]
  · cases h
/-- What is asked all together comes to And of both, and may be asked. -/
theorem eval_all (lk : List UInt8 → List UInt8 → Bool) {a b : List Nd} (r : List V) (ha : endK 1 a = some []) (hb : endK 1 b = some []) (ta : evalS lk a r = 0 ∨ evalS lk a r = 1 ∨ evalS lk a r = 2) (tb : evalS lk b r = 0 ∨ evalS lk b r = 1 ∨ evalS lk b r = 2) :
    evalS lk (allA a b) r = andT (evalS lk a r) (evalS lk b r) := by
  unfold allA
  by_cases h1 : isTrueA b = true
  · rw [if_pos h1, eval_true lk r h1 hb, (truth_tr ta).2]
  · rw [if_neg h1]
    by_cases h2 : isTrueA a = true
    · rw [if_pos h2, eval_true lk r h2 ha, (truth_tr tb).1]
    · rw [if_neg h2, (eval_and lk r ha hb).2, (truth_tr ta).1]
theorem right_all {ok : List UInt8 → Bool} {kinds : List Int} {a b : List Nd} (ha : rightA ok kinds a) (hb : rightA ok kinds b) (hl : (allA a b).length ≤ 40) : rightA ok kinds (allA a b) := by
  unfold allA at hl ⊢
  by_cases h1 : isTrueA b = true
  · rw [if_pos h1]; exact ha
  · rw [if_neg h1] at hl ⊢
    by_cases h2 : isTrueA a = true
    · rw [if_pos h2]; exact hb
    · rw [if_neg h2] at hl ⊢
      refine ⟨⟨by rw [List.length_cons]; omega, hl⟩, fun n hn => ?_, ?_⟩
      · rcases List.mem_cons.1 hn with rfl | hn
        · exact andN_one ok kinds
        · rcases List.mem_append.1 hn with hn | hn
          · exact ha.2.1 n hn
          · exact hb.2.1 n hn
      · show endK (1 + 1) (a ++ b) = some []
        rw [endK_add, endK_append a b 1 [] ha.2.2, List.nil_append]
        exact hb.2.2

/-! ### Columns -/

/-- A number put into its place. -/
def insI (x : Int) : List Int → List Int
  | [] => [x]
  | y :: t => if x < y then x :: y :: t else if x = y then y :: t else y :: insI x t
def colsS (l : List Nd) : List Int := l.foldl (fun out n => if colN n = true then insI n.col out else out) []
/-- Rising. -/
def upI : List Int → Prop
  | [] => True
  | x :: t => (∀ y ∈ t, x < y) ∧ upI t
theorem insI_mem (x : Int) (l : List Int) (z : Int) : z ∈ insI x l ↔ z = x ∨ z ∈ l := by
  induction l with
  | nil => simp [insI]
  | cons y t ih =>
    unfold insI
    by_cases h1 : x < y
    · rw [if_pos h1]; simp
    · rw [if_neg h1]
      by_cases h2 : x = y
      · rw [if_pos h2, h2]; simp
      · rw [if_neg h2, List.mem_cons, ih, List.mem_cons]
        constructor
        · rintro (h | h | h)
          · exact .inr (.inl h)
          · exact .inl h
          · exact .inr (.inr h)
        · rintro (h | h | h)
          · exact .inr (.inl h)
          · exact .inl h
          · exact .inr (.inr h)
theorem insI_up (x : Int) (l : List Int) (h : upI l) : upI (insI x l) := by
  induction l with
  | nil => exact ⟨fun y hy => (by cases hy), trivial⟩
  | cons y t ih =>
    unfold insI
    by_cases h1 : x < y
    · rw [if_pos h1]
      exact ⟨fun z hz => by
        rcases List.mem_cons.1 hz with rfl | hz
        · exact h1
        · have := h.1 z hz; omega, h⟩
    · rw [if_neg h1]
      by_cases h2 : x = y
      · rw [if_pos h2]; exact h
      · rw [if_neg h2]
        refine ⟨fun z hz => ?_, ih h.2⟩
        rcases (insI_mem x t z).1 hz with rfl | hz
        · omega
        · exact h.1 z hz
theorem upI_unique : ∀ (l l' : List Int), upI l → upI l' → (∀ z, z ∈ l ↔ z ∈ l') → l = l'
  | [], [], _, _, _ => rfl
  | [], y :: t, _, _, h => by have := (h y).2 (List.mem_cons_self ..); cases this
  | x :: t, [], _, _, h => by have := (h x).1 (List.mem_cons_self ..); cases this
  | x :: t, y :: s, h1, h2, h => by
    have e : x = y := by
      have a := (h x).1 (List.mem_cons_self ..)
      have b := (h y).2 (List.mem_cons_self ..)
      rcases List.mem_cons.1 a with a | a
      · exact a
      · rcases List.mem_cons.1 b with b | b
        · exact b.symm
        · have c1 := h2.1 x a
          have c2 := h1.1 y b
          omega
    subst e
    have et : t = s := upI_unique t s h1.2 h2.2 fun z => ⟨fun hz => by
      rcases List.mem_cons.1 ((h z).1 (List.mem_cons_of_mem _ hz)) with e | e
      · have := h1.1 z hz; omega
      · exact e, fun hz => by
      rcases List.mem_cons.1 ((h z).2 (List.mem_cons_of_mem _ hz)) with e | e
      · have := h2.1 z hz; omega
      · exact e⟩
    rw [et]
theorem colsS_fold (l : List Nd) : ∀ out, upI out → upI (l.foldl (fun out n => if colN n = true then insI n.col out else out) out) ∧
    ∀ z, z ∈ l.foldl (fun out n => if colN n = true then insI n.col out else out) out ↔ z ∈ out ∨ ∃ n ∈ l, colN n = true ∧ n.col = z := by
  induction l with
  | nil => intro out h; exact ⟨h, fun z => by simp⟩
  | cons n t ih =>
    intro out h
    rw [List.foldl_cons]
    by_cases hc : colN n = true
    · rw [if_pos hc]
      obtain ⟨h1, h2⟩ := ih _ (insI_up n.col out h)
      refine ⟨h1, fun z => ?_⟩
      rw [h2, insI_mem]
      constructor
      · rintro ((h | h) | ⟨m, hm, h⟩)
        · exact .inr ⟨n, List.mem_cons_self .., hc, h.symm⟩
        · exact .inl h
        · exact .inr ⟨m, List.mem_cons_of_mem _ hm, h⟩
      · rintro (h | ⟨m, hm, h⟩)
        · exact .inl (.inr h)
        · rcases List.mem_cons.1 hm with rfl | hm
          · exact .inl (.inl h.2.symm)
          · exact .inr ⟨m, hm, h⟩
    · rw [if_neg hc]
      obtain ⟨h1, h2⟩ := ih _ h
      refine ⟨h1, fun z => ?_⟩
      rw [h2]
      constructor
      · rintro (h | ⟨m, hm, h⟩)
        · exact .inl h
        · exact .inr ⟨m, List.mem_cons_of_mem _ hm, h⟩
      · rintro (h | ⟨m, hm, h⟩)
        · exact .inl h
        · rcases List.mem_cons.1 hm with rfl | hm
          · exact absurd h.1 hc
          · exact .inr ⟨m, hm, h⟩
/-- The columns, told without going through. -/
theorem colsS_spec (l : List Nd) : upI (colsS l) ∧ ∀ z, z ∈ colsS l ↔ ∃ n ∈ l, colN n = true ∧ n.col = z := by
  obtain ⟨h1, h2⟩ := colsS_fold l [] trivial
  exact ⟨h1, fun z => (h2 z).trans ⟨fun h => h.resolve_left (by simp), .inr⟩⟩

end Go.Proofs.YtfnmcdjfdhdlmaaGreatDoor

/-
  Conditions: which may be, told as one asks node by node. No program.
-/
namespace Go.Proofs.YtfnmcdjfdhdlmaaGreatDoor
open Go.RowKit

/-- How many parts a node is asked for, and whether it may have so many. -/
def manyI (n : Nd) : Int := if n.op = 4 then 1 else if n.op = 2 ∨ n.op = 3 then n.kids else 0
def okN (n : Nd) : Bool := decide (n.op = 1 ∨ n.op = 4 ∨ (5 ≤ n.op ∧ n.op ≤ 8) ∨ ((n.op = 2 ∨ n.op = 3) ∧ 1 ≤ n.kids ∧ n.kids ≤ 40))
theorem okN_many {n : Nd} (h : okN n = true) : 0 ≤ manyI n ∧ manyI n ≤ 40 := by
  have h := of_decide_eq_true h
  unfold manyI
  split
  · omega
  · split
    · omega
    · omega
def wholeGo : Int → List Nd → Bool
  | m, [] => decide (m = 0)
  | m, n :: t => okN n && (!decide (m = 0) && wholeGo (m - 1 + manyI n) t)
theorem wholeGo_cons (m : Int) (n : Nd) (t : List Nd) : wholeGo m (n :: t) = (okN n && (!decide (m = 0) && wholeGo (m - 1 + manyI n) t)) := rfl
theorem wholeGo_nil (m : Int) : wholeGo m [] = decide (m = 0) := rfl
def wholeS (l : List Nd) : Bool := decide (l.length ≤ 40) && wholeGo 1 l
theorem whole_end : ∀ (l : List Nd) (k : Nat), (∀ n ∈ l, okN n = true ∧ manyI n = (kidsN n : Int)) → (wholeGo k l = true ↔ endK k l = some [])
  | [], 0, _ => by simp [wholeGo, endK]
  | [], k + 1, _ => by simp [wholeGo, endK]; omega
  | n :: t, 0, _ => by simp [wholeGo, endK]
  | n :: t, k + 1, h => by
    obtain ⟨h1, h2⟩ := h n (List.mem_cons_self ..)
    have ih := whole_end t (k + kidsN n) fun m hm => h m (List.mem_cons_of_mem _ hm)
    rw [endK_cons, ← ih, wholeGo_cons, h1, h2, show ((k + 1 : Nat) : Int) - 1 + (kidsN n : Int) = ((k + kidsN n : Nat) : Int) by omega]
    have : ¬ ((k + 1 : Nat) : Int) = 0 := by omega
    simp only [this, decide_false, Bool.not_false, Bool.true_and]
theorem whole_ok : ∀ (l : List Nd) (m : Int), wholeGo m l = true → ∀ n ∈ l, okN n = true
  | [], _, _, n, hn => by cases hn
  | x :: t, m, h, n, hn => by
    rw [wholeGo_cons, Bool.and_eq_true, Bool.and_eq_true] at h
    rcases List.mem_cons.1 hn with rfl | hn
    · exact h.1
    · exact whole_ok t _ h.2.2 n hn

/-- May the value of a node be that asks a column of kind k? -/
def rightVal (ok : List UInt8 → Bool) (k : Int) (n : Nd) : Bool := if n.op = 8 then decide (n.v = V.zero) else rightV n.v && (decide (n.v.k = k) && (!decide (n.op = 7) || (decide (k = 3) && ok n.v.s)))
/-- May a node's fields be? -/
def rightF (ok : List UInt8 → Bool) (kinds : List Int) (n : Nd) : Bool :=
  if n.op = 2 ∨ n.op = 3 then decide (n = ⟨n.op, 0, n.kids, V.zero⟩) else if n.op = 1 ∨ n.op = 4 then decide (n = ⟨n.op, 0, 0, V.zero⟩)
  else decide (n.kids = 0) && (decide (0 ≤ n.col ∧ n.col < kinds.length) && rightVal ok ((kinds[n.col.toNat]?).getD 0) n)
theorem op_cases (o : Int) : o = 1 ∨ o = 2 ∨ o = 3 ∨ o = 4 ∨ o = 5 ∨ o = 6 ∨ o = 7 ∨ o = 8 ∨ (o < 1 ∨ 8 < o) := by omega
theorem one_iff (ok : List UInt8 → Bool) (kinds : List Int) (n : Nd) : oneN ok kinds n ↔ okN n = true ∧ rightF ok kinds n = true := by
  obtain ⟨o, c, k, v⟩ := n
  unfold oneN okN rightF rightVal colN
  simp only [decide_eq_true_eq, Nd.mk.injEq]
  rcases op_cases o with rfl | rfl | rfl | rfl | rfl | rfl | rfl | rfl | h
  · simp [and_comm, and_left_comm, and_assoc]
  · simp [and_comm, and_assoc]
  · simp [and_comm, and_assoc]
  · simp [and_comm, and_left_comm, and_assoc]
  · simp [and_assoc]
  · simp [and_assoc]
  · simp only [show ¬ ((7 : Int) = 2 ∨ (7 : Int) = 3) by decide, show ¬ ((7 : Int) = 1 ∨ (7 : Int) = 4) by decide, show ¬ ((7 : Int) = 5 ∨ (7 : Int) = 6) by decide, show ¬ ((7 : Int) = 8) by decide, if_false, if_true, Bool.and_eq_true, decide_eq_true_eq, Bool.or_eq_true]
    simp only [show ((1 : Int) ≤ 7 ∧ (7 : Int) ≤ 8) by decide, show ((5 : Int) ≤ 7 ∧ (7 : Int) ≤ 8) by decide, true_and, if_true, decide_true, Bool.not_true, Bool.false_eq_true, false_or, or_true, true_or]
    constructor
    · rintro ⟨h1, h2, h3, h4, h5, h6⟩
      exact ⟨h1, h2, h3, by rw [h4, h5], h5, h6⟩
    · rintro ⟨h1, h2, h3, h4, h5, h6⟩
      exact ⟨h1, h2, h3, by rw [h4, h5], h5, h6⟩
  · simp [and_assoc]
  · constructor
    · intro h'; omega
    · intro h'; omega
theorem one_kids {ok : List UInt8 → Bool} {kinds : List Int} {n : Nd} (h : oneN ok kinds n) : manyI n = (kidsN n : Int) := by
  obtain ⟨-, h2, -⟩ := h
  unfold manyI kidsN
  split
  · rfl
  · split
    · rename_i h; rw [if_pos h] at h2; omega
    · rename_i h; rw [if_neg h] at h2; omega
theorem right_iff (ok : List UInt8 → Bool) (kinds : List Int) (l : List Nd) : rightA ok kinds l ↔ wholeS l = true ∧ ∀ n ∈ l, rightF ok kinds n = true := by
  unfold rightA wholeS
  rw [Bool.and_eq_true, decide_eq_true_eq]
  constructor
  · rintro ⟨⟨_, h2⟩, h3, h4⟩
    exact ⟨⟨h2, (whole_end l 1 fun n hn => ⟨((one_iff ok kinds n).1 (h3 n hn)).1, one_kids (h3 n hn)⟩).2 h4⟩, fun n hn => ((one_iff ok kinds n).1 (h3 n hn)).2⟩
  · rintro ⟨⟨h1, h2⟩, h3⟩
    have h5 : ∀ n ∈ l, oneN ok kinds n := fun n hn => (one_iff ok kinds n).2 ⟨whole_ok l _ h2 n hn, h3 n hn⟩
    refine ⟨⟨?_, h1⟩, h5, (whole_end l 1 fun n hn => ⟨((one_iff ok kinds n).1 (h5 n hn)).1, one_kids (h5 n hn)⟩).1 h2⟩
    cases l with
    | nil => simp [wholeGo] at h2
    | cons a t => simp
/-- What is told of what may not be asked. -/
def errA (ok : List UInt8 → Bool) (kinds : List Int) (l : List Nd) : Int := if rightA ok kinds l then 0 else 140
theorem errA_is (ok : List UInt8 → Bool) (kinds : List Int) (l : List Nd) : errA ok kinds l = bif wholeS l && l.all (rightF ok kinds) then 0 else 140 := by
  unfold errA
  by_cases h : rightA ok kinds l
  · have h' := (right_iff ok kinds l).1 h
    rw [if_pos h, h'.1, List.all_eq_true.2 h'.2]
    rfl
  · rw [if_neg h]
    cases hb : wholeS l && l.all (rightF ok kinds) with
    | false => rfl
    | true =>
      rw [Bool.and_eq_true, List.all_eq_true] at hb
      exact absurd ((right_iff ok kinds l).2 hb) h

end Go.Proofs.YtfnmcdjfdhdlmaaGreatDoor
