/-
  What is known, read off bytes one behind the other. No program.
-/
import Derived.Test.YtlbilmmjcfiokaaVal
import Derived.Test.YtlbilmmjcfiokaaValBytes
import Derived.Test.YtlbilmmjcfiokaaTk
namespace Go.Proofs.Ytlbilmmjcfiokaa
section
open Go.RowKit

/-- What is known: the least, the greatest, how many are nothing, how many there are. -/
structure Zo where
  a : V
  b : V
  n : Int
  m : Int
deriving DecidableEq

def Zo.zero : Zo := ⟨V.zero, V.zero, 0, 0⟩
/-- As a value of the model. -/
def Zo.val (z : Zo) : Value := .agg #[.int .u8 z.a.k, .int .i64 z.a.n, .string ⟨z.a.s.toArray⟩, .int .u8 z.b.k, .int .i64 z.b.n, .string ⟨z.b.s.toArray⟩, .int .i64 z.n, .int .i64 z.m]
def Zo.cells (z : Zo) : List Value := [.int .u8 z.a.k, .int .i64 z.a.n, .string ⟨z.a.s.toArray⟩, .int .u8 z.b.k, .int .i64 z.b.n, .string ⟨z.b.s.toArray⟩, .int .i64 z.n, .int .i64 z.m]
/-- What may come in. -/
structure Zo.fits (z : Zo) : Prop where
  a : z.a.fits
  b : z.b.fits
  n0 : -9223372036854775808 ≤ z.n
  n1 : z.n ≤ 9223372036854775807
  m0 : -9223372036854775808 ≤ z.m
  m1 : z.m ≤ 9223372036854775807

/-! ### The first one by an order -/

structure IsCmp (c : V → V → Int) : Prop where
  zero : ∀ a b, c a b = 0 ↔ a = b
  neg : ∀ a b, c b a = - c a b
  trans : ∀ a b d, c a b < 0 → c b d < 0 → c a d < 0
theorem isCmp_V : IsCmp cmpV := ⟨fun _ _ => cmpV_zero, cmpV_neg, fun a b d h1 h2 => by
  have e1 := cmpV_three a b
  have e2 := cmpV_three b d
  have e3 := cmpV_trans (a := a) (b := b) (c := d) (by omega) (by omega)
  omega⟩
def cmpW (a b : V) : Int := cmpV b a
theorem isCmp_W : IsCmp cmpW := ⟨fun _ _ => cmpV_zero.trans eq_comm, fun a b => cmpV_neg b a, fun a b d h1 h2 => isCmp_V.trans d b a h2 h1⟩

def nz (v : V) : V := if v.k = 0 then V.zero else v
def pick (c : V → V → Int) (a b : V) : V := nz (if a.k = 0 ∨ (b.k ≠ 0 ∧ c b a < 0) then b else a)
theorem nz_yes {v : V} (h : v.k ≠ 0) : nz v = v := if_neg h
theorem nz_no {v : V} (h : v.k = 0) : nz v = V.zero := if_pos h
theorem nz_fits {v : V} (h : v.fits) : (nz v).fits := by
  unfold nz
  split
  · exact ⟨by decide, by decide, by decide, by decide⟩
  · exact h
theorem pick_fits {c : V → V → Int} {a b : V} (ha : a.fits) (hb : b.fits) : (pick c a b).fits := by
  unfold pick
  split
  · exact nz_fits hb
  · exact nz_fits ha

/-- v is the first one of values by that order (nothing, if all are nothing). -/
def First (c : V → V → Int) (l : List V) (v : V) : Prop := (v = V.zero ∧ ∀ x ∈ l, x.k = 0) ∨ (v.k ≠ 0 ∧ v ∈ l ∧ ∀ x ∈ l, x.k ≠ 0 → ¬ c x v < 0)
theorem First.unique {c : V → V → Int} (hc : IsCmp c) {l l' : List V} {v v' : V} (hl : ∀ x, x ∈ l ↔ x ∈ l') (h : First c l v) (h' : First c l' v') : v = v' := by
  rcases h with ⟨rfl, h1⟩ | ⟨h1, h2, h3⟩
  · rcases h' with ⟨rfl, -⟩ | ⟨h4, h5, -⟩
    · rfl
    · exact absurd (h1 v' ((hl v').2 h5)) h4
  · rcases h' with ⟨rfl, h4⟩ | ⟨h4, h5, h6⟩
    · exact absurd (h4 v ((hl v).1 h2)) h1
    · have a1 := h3 v' ((hl v').2 h5) h4
      have a2 := h6 v ((hl v).1 h2) h1
      have a3 := hc.neg v v'
      exact (hc.zero v v').1 (by omega)
theorem First.both {c : V → V → Int} (hc : IsCmp c) {x y : List V} {v w : V} (h : First c x v) (h' : First c y w) : First c (x ++ y) (pick c v w) := by
  unfold pick
  rcases h with ⟨rfl, h1⟩ | ⟨h1, h2, h3⟩
  · rw [if_pos (.inl rfl)]
    rcases h' with ⟨rfl, h4⟩ | ⟨h4, h5, h6⟩
    · refine .inl ⟨rfl, fun z hz => ?_⟩
      rcases List.mem_append.1 hz with hz | hz
      · exact h1 z hz
      · exact h4 z hz
    · rw [nz_yes h4]
      refine .inr ⟨h4, List.mem_append_right _ h5, fun z hz hk => ?_⟩
      rcases List.mem_append.1 hz with hz | hz
      · exact absurd (h1 z hz) hk
      · exact h6 z hz hk
  · rcases h' with ⟨rfl, h4⟩ | ⟨h4, h5, h6⟩
    · rw [if_neg (by rintro (h | h); exact h1 h; exact h.1 rfl), nz_yes h1]
      refine .inr ⟨h1, List.mem_append_left _ h2, fun z hz hk => ?_⟩
      rcases List.mem_append.1 hz with hz | hz
      · exact h3 z hz hk
      · exact absurd (h4 z hz) hk
    · by_cases hlt : c w v < 0
      · rw [if_pos (.inr ⟨h4, hlt⟩), nz_yes h4]
        refine .inr ⟨h4, List.mem_append_right _ h5, fun z hz hk hzw => ?_⟩
        rcases List.mem_append.1 hz with hz | hz
        · exact h3 z hz hk (hc.trans z w v hzw hlt)
        · exact h6 z hz hk hzw
      · rw [if_neg (by rintro (h | h); exact h1 h; exact hlt h.2), nz_yes h1]
        refine .inr ⟨h1, List.mem_append_left _ h2, fun z hz hk hzv => ?_⟩
        rcases List.mem_append.1 hz with hz | hz
        · exact h3 z hz hk hzv
        · by_cases e : v = w
          · subst e
            exact h6 z hz hk hzv
          · have a1 : c v w ≠ 0 := fun h => e ((hc.zero v w).1 h)
            have a2 := hc.neg v w
            exact h6 z hz hk (hc.trans z v w hzv (by omega))
theorem First.one {c : V → V → Int} (hc : IsCmp c) (v : V) : First c [v] (nz v) := by
  by_cases h : v.k = 0
  · rw [nz_no h]
    exact .inl ⟨rfl, fun x hx => by rw [List.mem_singleton.1 hx]; exact h⟩
  · rw [nz_yes h]
    refine .inr ⟨h, List.mem_singleton.2 rfl, fun x hx _ => ?_⟩
    rw [List.mem_singleton.1 hx, (hc.zero v v).2 rfl]
    decide
theorem First.mem {c : V → V → Int} {l : List V} {v : V} (h : First c l v) : v = V.zero ∨ v ∈ l := by
  rcases h with h | h
  · exact .inl h.1
  · exact .inr h.2.1

/-! ### What is known of values -/

def mergeZ (p q : Zo) : Zo := ⟨pick cmpV p.a q.a, pick cmpW p.b q.b, wrap64 (p.n + q.n), wrap64 (p.m + q.m)⟩
def oneZ (v : V) : Zo := ⟨nz v, nz v, if v.k = 0 then 1 else 0, 1⟩
def ofZ (l : List V) : Zo := l.foldl (fun z v => mergeZ z (oneZ v)) Zo.zero
theorem ofZ_snoc (l : List V) (v : V) : ofZ (l ++ [v]) = mergeZ (ofZ l) (oneZ v) := by
  unfold ofZ
  rw [List.foldl_append]
  rfl
theorem wrapZ_fits (x : Int) : -9223372036854775808 ≤ wrap64 x ∧ wrap64 x ≤ 9223372036854775807 := by unfold wrap64; omega
theorem mergeZ_fits {p q : Zo} (hp : p.fits) (hq : q.fits) : (mergeZ p q).fits :=
  ⟨pick_fits hp.a hq.a, pick_fits hp.b hq.b, (wrapZ_fits _).1, (wrapZ_fits _).2, (wrapZ_fits _).1, (wrapZ_fits _).2⟩
theorem zero_fits : Zo.zero.fits := ⟨⟨by decide, by decide, by decide, by decide⟩, ⟨by decide, by decide, by decide, by decide⟩, by decide, by decide, by decide, by decide⟩
theorem oneZ_fits {v : V} (h : v.fits) : (oneZ v).fits := ⟨nz_fits h, nz_fits h, by unfold oneZ; simp only; split <;> decide, by unfold oneZ; simp only; split <;> decide, by show (-9223372036854775808 : Int) ≤ 1; decide, by show (1 : Int) ≤ 9223372036854775807; decide⟩
def nullsN (l : List V) : Nat := (l.filter fun v => decide (v.k = 0)).length
theorem nullsN_le (l : List V) : nullsN l ≤ l.length := List.length_filter_le _ _
theorem nullsN_append (x y : List V) : nullsN (x ++ y) = nullsN x + nullsN y := by unfold nullsN; rw [List.filter_append, List.length_append]
theorem nullsN_pos {l : List V} {v : V} (h : v ∈ l) (hk : v.k = 0) : 0 < nullsN l := List.length_pos_of_mem (List.mem_filter.2 ⟨h, decide_eq_true hk⟩)
theorem nullsN_lt {l : List V} {v : V} (h : v ∈ l) (hk : v.k ≠ 0) : nullsN l < l.length := by
  induction l with
  | nil => cases h
  | cons x l ih =>
    unfold nullsN at *
    rw [List.filter_cons]
    by_cases hx : x.k = 0
    · rw [if_pos (decide_eq_true hx)]
      rcases List.mem_cons.1 h with e | e
      · exact absurd (e ▸ hx) hk
      · have := ih e
        simp only [List.length_cons]
        omega
    · rw [if_neg (by simpa using hx)]
      have := List.length_filter_le (fun v => decide (v.k = 0)) l
      simp only [List.length_cons]
      omega
theorem nullsN_all {l : List V} (h : nullsN l = l.length) : ∀ x ∈ l, x.k = 0 := fun x hx => by
  by_cases e : x.k = 0
  · exact e
  · have := nullsN_lt hx e
    omega
/-- What is known, told without going through. -/
structure Knows (l : List V) (z : Zo) : Prop where
  least : First cmpV l z.a
  most : First cmpW l z.b
  nulls : z.n = (nullsN l : Int)
  many : z.m = (l.length : Int)
theorem Knows.unique {l l' : List V} {z z' : Zo} (h : Knows l z) (h' : Knows l' z') (hp : ∀ x, x ∈ l ↔ x ∈ l') (hn : nullsN l = nullsN l') (hm : l.length = l'.length) : z = z' := by
  have e1 := First.unique isCmp_V hp h.least h'.least
  have e2 := First.unique isCmp_W hp h.most h'.most
  have e3 := h.nulls
  have e4 := h.many
  have e5 := h'.nulls
  have e6 := h'.many
  obtain ⟨a, b, n, m⟩ := z
  obtain ⟨a', b', n', m'⟩ := z'
  simp only at *
  rw [e1, e2, show n = n' by omega, show m = m' by omega]
theorem knows_nil : Knows [] Zo.zero := ⟨.inl ⟨rfl, fun x hx => by cases hx⟩, .inl ⟨rfl, fun x hx => by cases hx⟩, rfl, rfl⟩
theorem knows_one (v : V) : Knows [v] (oneZ v) := by
  refine ⟨First.one isCmp_V v, First.one isCmp_W v, ?_, rfl⟩
  unfold oneZ nullsN
  by_cases h : v.k = 0
  · simp [h]
  · simp [h]
theorem Knows.merge {x y : List V} {p q : Zo} (h : Knows x p) (h' : Knows y q) (hl : x.length + y.length ≤ 1000000) : Knows (x ++ y) (mergeZ p q) := by
  have e1 := nullsN_le x
  have e2 := nullsN_le y
  have e3 := h.nulls
  have e4 := h.many
  have e5 := h'.nulls
  have e6 := h'.many
  refine ⟨First.both isCmp_V h.least h'.least, First.both isCmp_W h.most h'.most, ?_, ?_⟩
  · show wrap64 _ = _
    rw [nullsN_append]
    unfold wrap64
    omega
  · show wrap64 _ = _
    rw [List.length_append]
    unfold wrap64
    omega
theorem knows_of (l : List V) (hl : l.length ≤ 1000000) : Knows l (ofZ l) := by
  have h : ∀ j, j ≤ l.length → Knows (l.take j) (ofZ (l.take j)) := by
    intro j
    induction j with
    | zero => intro _; exact knows_nil
    | succ j ih =>
      intro hj
      have hjl : j < l.length := by omega
      rw [List.take_succ_eq_append_getElem hjl, ofZ_snoc]
      exact (ih (by omega)).merge (knows_one _) (by rw [List.length_take, List.length_singleton]; omega)
  have e := h l.length (Nat.le_refl _)
  rwa [List.take_of_length_le (Nat.le_refl _)] at e
theorem ofZ_fits {l : List V} (h : ∀ v ∈ l, v.fits) : (ofZ l).fits := by
  have h2 : ∀ j, j ≤ l.length → (ofZ (l.take j)).fits := by
    intro j
    induction j with
    | zero => intro _; exact zero_fits
    | succ j ih =>
      intro hj
      have hjl : j < l.length := by omega
      rw [List.take_succ_eq_append_getElem hjl, ofZ_snoc]
      exact mergeZ_fits (ih (by omega)) (oneZ_fits (h _ (List.getElem_mem hjl)))
  have e := h2 l.length (Nat.le_refl _)
  rwa [List.take_of_length_le (Nat.le_refl _)] at e
/-- Texts of what is known are those of values. -/
def Zo.small (z : Zo) (n : Nat) : Prop := z.a.s.length ≤ n ∧ z.b.s.length ≤ n
theorem nz_small {v : V} {n : Nat} (h : v.s.length ≤ n) : (nz v).s.length ≤ n := by
  unfold nz
  split
  · exact Nat.zero_le _
  · exact h
theorem pick_small {c : V → V → Int} {a b : V} {n : Nat} (ha : a.s.length ≤ n) (hb : b.s.length ≤ n) : (pick c a b).s.length ≤ n := by
  unfold pick
  split
  · exact nz_small hb
  · exact nz_small ha
theorem mergeZ_small {p q : Zo} {n : Nat} (hp : p.small n) (hq : q.small n) : (mergeZ p q).small n := ⟨pick_small hp.1 hq.1, pick_small hp.2 hq.2⟩
theorem ofZ_small {l : List V} {n : Nat} (h : ∀ v ∈ l, v.s.length ≤ n) : (ofZ l).small n := by
  have h2 : ∀ j, j ≤ l.length → (ofZ (l.take j)).small n := by
    intro j
    induction j with
    | zero => intro _; exact ⟨Nat.zero_le _, Nat.zero_le _⟩
    | succ j ih =>
      intro hj
      have hjl : j < l.length := by omega
      rw [List.take_succ_eq_append_getElem hjl, ofZ_snoc]
      have e := h _ (List.getElem_mem hjl)
      exact mergeZ_small (ih (by omega)) ⟨nz_small e, nz_small e⟩
  have e := h2 l.length (Nat.le_refl _)
  rwa [List.take_of_length_le (Nat.le_refl _)] at e

/-! ### What the law of parts asks -/

theorem merge_parts {x y : List V} (h : x.length + y.length ≤ 1000000) : mergeZ (ofZ x) (ofZ y) = ofZ (x ++ y) :=
  Knows.unique ((knows_of x (by omega)).merge (knows_of y (by omega)) h) (knows_of (x ++ y) (by rw [List.length_append]; exact h)) (fun _ => Iff.rfl) rfl rfl
theorem merge_turned {x y : List V} (h : x.length + y.length ≤ 1000000) : mergeZ (ofZ y) (ofZ x) = ofZ (x ++ y) :=
  Knows.unique ((knows_of y (by omega)).merge (knows_of x (by omega)) (by omega)) (knows_of (x ++ y) (by rw [List.length_append]; exact h)) (fun z => by rw [List.mem_append, List.mem_append, or_comm]) (by rw [nullsN_append, nullsN_append, Nat.add_comm]) (by rw [List.length_append, List.length_append, Nat.add_comm])
theorem merge_none {x : List V} (h : x.length ≤ 1000000) : mergeZ (ofZ x) Zo.zero = ofZ x := by
  have e := merge_parts (x := x) (y := []) (by simpa using h)
  rwa [List.append_nil] at e
theorem none_merge {x : List V} (h : x.length ≤ 1000000) : mergeZ Zo.zero (ofZ x) = ofZ x := merge_parts (x := []) (y := x) (by simpa using h)

/-! ### What may be known -/

def someV (k : Int) (v : V) : Prop := rightV v = true ∧ v.k = k
instance (k : Int) (v : V) : Decidable (someV k v) := by unfold someV; exact inferInstance
def rightZ (k : Int) (z : Zo) : Prop :=
  (1 ≤ k ∧ k ≤ 3) ∧ (0 ≤ z.m ∧ z.m ≤ 4096) ∧ (0 ≤ z.n ∧ z.n ≤ z.m) ∧
    ((z.n = z.m ∧ z.a = V.zero ∧ z.b = V.zero) ∨ (z.n ≠ z.m ∧ someV k z.a ∧ someV k z.b ∧ cmpV z.a z.b ≤ 0 ∧ (z.n + 1 < z.m ∨ z.a = z.b)))
instance (k : Int) (z : Zo) : Decidable (rightZ k z) := by unfold rightZ; exact inferInstance
theorem right_zero : rightV V.zero = true := by decide
theorem rightZ_vals {k : Int} {z : Zo} (h : rightZ k z) : rightV z.a = true ∧ rightV z.b = true := by
  rcases h.2.2.2 with ⟨-, h1, h2⟩ | ⟨-, h1, h2, -⟩
  · rw [h1, h2]; exact ⟨right_zero, right_zero⟩
  · exact ⟨h1.1, h2.1⟩
theorem right_len {v : V} (h : rightV v = true) : v.s.length ≤ 1024 := by
  rcases (rightV_iff v).1 h with h | h | h | h
  · rw [h.2.2]; exact Nat.zero_le _
  · rw [h.2.2]; exact Nat.zero_le _
  · rw [h.2]; exact Nat.zero_le _
  · exact h.2.2
/-- What is known of a column's values may be. -/
theorem rightZ_of {k : Int} {l : List V} (hk : 1 ≤ k ∧ k ≤ 3) (hl : l.length ≤ 4096) (h : ∀ v ∈ l, rightV v = true ∧ (v.k = 0 ∨ v.k = k)) : rightZ k (ofZ l) := by
  have e := knows_of l (by omega)
  have e1 := nullsN_le l
  have e2 := e.nulls
  have e3 := e.many
  refine ⟨hk, by omega, by omega, ?_⟩
  by_cases hn : nullsN l = l.length
  · have h0 := nullsN_all hn
    refine .inl ⟨by omega, ?_, ?_⟩
    · rcases e.least with g | g
      · exact g.1
      · exact absurd (h0 _ g.2.1) g.1
    · rcases e.most with g | g
      · exact g.1
      · exact absurd (h0 _ g.2.1) g.1
  · have hne : ¬ ∀ x ∈ l, x.k = 0 := fun h0 => hn (by
      unfold nullsN
      rw [List.filter_eq_self.2 fun x hx => decide_eq_true (h0 x hx)])
    rcases e.least with g | ⟨g1, g2, g3⟩
    · exact absurd g.2 hne
    rcases e.most with f | ⟨f1, f2, f3⟩
    · exact absurd f.2 hne
    refine .inr ⟨by omega, ⟨(h _ g2).1, ((h _ g2).2).resolve_left g1⟩, ⟨(h _ f2).1, ((h _ f2).2).resolve_left f1⟩, ?_, ?_⟩
    · have a1 := g3 _ f2 f1
      have a2 := cmpV_neg (ofZ l).a (ofZ l).b
      omega
    · by_cases h2 : (ofZ l).n + 1 < (ofZ l).m
      · exact .inl h2
      · right
        -- one value alone is something: it is both
        have hcount : ((l.filter fun v => !decide (v.k = 0)).length : Int) = 1 := by
          have e4 : nullsN l + (l.filter fun v => !decide (v.k = 0)).length = l.length := by
            unfold nullsN
            clear e hne hn e1 e2 e3 g1 g2 g3 f1 f2 f3 h2 h hl
            induction l with
            | nil => rfl
            | cons x l ih =>
              by_cases hx : x.k = 0
              · simp [hx] at ih ⊢; omega
              · simp [hx] at ih ⊢; omega
          omega
        have m1 : (ofZ l).a ∈ l.filter fun v => !decide (v.k = 0) := List.mem_filter.2 ⟨g2, by simp [g1]⟩
        have m2 : (ofZ l).b ∈ l.filter fun v => !decide (v.k = 0) := List.mem_filter.2 ⟨f2, by simp [f1]⟩
        generalize (l.filter fun v => !decide (v.k = 0)) = q at hcount m1 m2
        match q, hcount, m1, m2 with
        | [y], _, m1, m2 => rw [List.mem_singleton.1 m1, List.mem_singleton.1 m2]
        | [], hcount, _, _ => simp at hcount
        | _ :: _ :: _, hcount, _, _ => simp at hcount; omega

/-! ### Bytes -/

def putZ (z : Zo) : List UInt8 := ((encV z.a ++ encV z.b) ++ enc (zig z.n)) ++ enc (zig z.m)
/-- These bytes are that, put. -/
def IsPutZ (k : Int) (b : List UInt8) (z : Zo) : Prop := z.fits ∧ rightZ k z ∧ putZ z = b
theorem keepV_right {v : V} (h : rightV v = true) : keepV v = v := if_pos h
/-- What one reads off the front, one behind the other. -/
theorem IsPutZ.front {k : Int} {b : List UInt8} {z : Zo} (h : IsPutZ k b z) : ∃ r s t, takeV b = some (z.a, r) ∧ takeV r = some (z.b, s) ∧ tk s = (zig z.n, t, false) ∧ tk t = (zig z.m, [], false) := by
  obtain ⟨hf, hr, rfl⟩ := h
  obtain ⟨r1, r2⟩ := rightZ_vals hr
  refine ⟨encV z.b ++ (enc (zig z.n) ++ enc (zig z.m)), enc (zig z.n) ++ enc (zig z.m), enc (zig z.m), ?_, ?_, ?_, ?_⟩
  · unfold putZ
    rw [List.append_assoc, List.append_assoc, takeV_enc _ hf.a, keepV_right r1]
  · rw [takeV_enc _ hf.b, keepV_right r2]
  · exact tk_enc _ _ (zig_lt _ hf.n0 hf.n1)
  · have e := tk_enc (zig z.m) [] (zig_lt _ hf.m0 hf.m1)
    rwa [List.append_nil] at e
theorem putZ_inj {k : Int} {b : List UInt8} {z z' : Zo} (h : IsPutZ k b z) (h' : IsPutZ k b z') : z = z' := by
  obtain ⟨r, s, t, a1, a2, a3, a4⟩ := h.front
  obtain ⟨r', s', t', c1, c2, c3, c4⟩ := h'.front
  rw [a1] at c1
  simp only [Option.some.injEq, Prod.mk.injEq] at c1
  obtain ⟨e1, rfl⟩ := c1
  rw [a2] at c2
  simp only [Option.some.injEq, Prod.mk.injEq] at c2
  obtain ⟨e2, rfl⟩ := c2
  rw [a3] at c3
  simp only [Prod.mk.injEq, and_true] at c3
  obtain ⟨e3, rfl⟩ := c3
  rw [a4] at c4
  simp only [Prod.mk.injEq, and_true] at c4
  have f := h.1
  have f' := h'.1
  have e5 := congrArg zag e3
  have e6 := congrArg zag c4
  rw [zag_zig _ f.n0 f.n1, zag_zig _ f'.n0 f'.n1] at e5
  rw [zag_zig _ f.m0 f.m1, zag_zig _ f'.m0 f'.m1] at e6
  obtain ⟨za, zb, zn, zm⟩ := z
  obtain ⟨za', zb', zn', zm'⟩ := z'
  simp only at *
  rw [e1, e2, e5, e6]
open Classical in
noncomputable def takeZ (k : Int) (b : List UInt8) : Zo × Int := if h : ∃ z, IsPutZ k b z then (h.choose, 0) else (Zo.zero, 6)
theorem takeZ_yes {k : Int} {b : List UInt8} {z : Zo} (h : IsPutZ k b z) : takeZ k b = (z, 0) := by
  have hex : ∃ z, IsPutZ k b z := ⟨z, h⟩
  unfold takeZ
  rw [dif_pos hex, putZ_inj hex.choose_spec h]
theorem takeZ_no {k : Int} {b : List UInt8} (h : ¬ ∃ z, IsPutZ k b z) : takeZ k b = (Zo.zero, 6) := by
  unfold takeZ
  rw [dif_neg h]
/-- Take as a whole. -/
noncomputable def takenZ (k : Int) (b : List UInt8) : Zo × Int := if ¬ (1 ≤ k ∧ k ≤ 3) then (Zo.zero, 1) else takeZ k b
theorem putZ_len (z : Zo) : (putZ z).length ≤ 4018 := by
  unfold putZ
  have h1 := encV_le z.a
  have h2 := encV_le z.b
  have h3 := enc_length (zig z.n)
  have h4 := enc_length (zig z.m)
  simp only [List.length_append]
  omega

/-! ### What may come of it -/

def unkZ (z : Zo) (v : V) : Bool := decide (0 < z.n) || (decide (v.k = 0) && decide (0 < z.m))
def hasZ (z : Zo) (v : V) : Bool := decide (z.n < z.m) && !decide (v.k = 0)
def equalZ (z : Zo) (v : V) : Bool × Bool × Bool := (hasZ z v && (!decide (z.a = v) || !decide (z.b = v)), unkZ z v, hasZ z v && (decide (0 ≤ cmpV v z.a) && decide (cmpV v z.b ≤ 0)))
def lessZ (z : Zo) (v : V) : Bool × Bool × Bool := (hasZ z v && decide (0 ≤ cmpV z.b v), unkZ z v, hasZ z v && decide (cmpV z.a v < 0))
def nullZ (z : Zo) : Bool × Bool × Bool := (decide (z.n < z.m), false, decide (0 < z.n))
def tripV (t : Bool × Bool × Bool) : Value := .agg #[.bool t.1, .bool t.2.1, .bool t.2.2]
/-- What may come of values of which one is w. -/
def atT (t : Bool × Bool × Bool) (i : Int) : Bool := if i = 0 then t.1 else if i = 1 then t.2.1 else t.2.2
theorem sure_of {l : List V} {v w : V} (hl : l.length ≤ 1000000) (hw : w ∈ l) :
    atT (equalZ (ofZ l) v) (equalT w v) = true ∧ atT (lessZ (ofZ l) v) (lessT w v) = true ∧ (w.k = 0 → (nullZ (ofZ l)).2.2 = true) ∧ (w.k ≠ 0 → (nullZ (ofZ l)).1 = true) := by
  have e := knows_of l hl
  have e1 := nullsN_le l
  have e2 := e.nulls
  have e3 := e.many
  have hpos := List.length_pos_of_mem hw
  generalize ofZ l = z at e e2 e3 ⊢
  by_cases hw0 : w.k = 0
  · have h0 := nullsN_pos hw hw0
    have hu : unkZ z v = true := by unfold unkZ; rw [decide_eq_true (show 0 < z.n by omega)]; rfl
    have t1 : equalT w v = 1 := if_pos (.inl hw0)
    have t2 : lessT w v = 1 := if_pos (.inl hw0)
    rw [t1, t2]
    refine ⟨hu, hu, fun _ => ?_, fun h => absurd hw0 h⟩
    exact decide_eq_true (by omega)
  · have h0 := nullsN_lt hw hw0
    have hd : decide (z.n < z.m) = true := decide_eq_true (by omega)
    refine ⟨?_, ?_, fun h => absurd h hw0, fun _ => hd⟩
    · by_cases hv : v.k = 0
      · have t1 : equalT w v = 1 := if_pos (.inr hv)
        rw [t1]
        show unkZ z v = true
        unfold unkZ
        rw [decide_eq_true hv, decide_eq_true (show 0 < z.m by omega)]
        simp
      · have hh : hasZ z v = true := by unfold hasZ; rw [hd, decide_eq_false hv]; rfl
        rcases e.least with g | ⟨g1, g2, g3⟩
        · exact absurd (g.2 w hw) hw0
        rcases e.most with f | ⟨f1, f2, f3⟩
        · exact absurd (f.2 w hw) hw0
        have a1 := g3 w hw hw0
        have a2 : ¬ cmpV z.b w < 0 := f3 w hw hw0
        have a3 := cmpV_neg z.b w
        by_cases hq : w = v
        · have t1 : equalT w v = 2 := by
            unfold equalT knownT
            rw [if_neg (by rintro (h | h); exact hw0 h; exact hv h), decide_eq_true (cmpV_zero.2 hq), if_pos rfl]
          rw [t1]
          subst hq
          show (hasZ z w && _) = true
          rw [hh, decide_eq_true (show 0 ≤ cmpV w z.a by omega), decide_eq_true (show cmpV w z.b ≤ 0 by omega)]
          rfl
        · have t1 : equalT w v = 0 := by
            unfold equalT knownT
            rw [if_neg (by rintro (h | h); exact hw0 h; exact hv h), decide_eq_false (fun h => hq (cmpV_zero.1 h)), if_neg (by decide)]
          rw [t1]
          show (hasZ z v && (!decide (z.a = v) || !decide (z.b = v))) = true
          rw [hh, Bool.true_and]
          by_cases ha : z.a = v
          · by_cases hb : z.b = v
            · exfalso
              rw [ha] at a1
              rw [hb] at a2 a3
              exact hq (cmpV_zero.1 (by omega))
            · rw [decide_eq_false hb]; simp
          · rw [decide_eq_false ha]; rfl
    · by_cases hv : v.k = 0
      · have t1 : lessT w v = 1 := if_pos (.inr hv)
        rw [t1]
        show unkZ z v = true
        unfold unkZ
        rw [decide_eq_true hv, decide_eq_true (show 0 < z.m by omega)]
        simp
      · have hh : hasZ z v = true := by unfold hasZ; rw [hd, decide_eq_false hv]; rfl
        rcases e.least with g | ⟨g1, g2, g3⟩
        · exact absurd (g.2 w hw) hw0
        rcases e.most with f | ⟨f1, f2, f3⟩
        · exact absurd (f.2 w hw) hw0
        have a1 := g3 w hw hw0
        have a2 : ¬ cmpV z.b w < 0 := f3 w hw hw0
        by_cases hq : cmpV w v < 0
        · have t1 : lessT w v = 2 := by
            unfold lessT knownT
            rw [if_neg (by rintro (h | h); exact hw0 h; exact hv h), decide_eq_true hq, if_pos rfl]
          rw [t1]
          show (hasZ z v && decide (cmpV z.a v < 0)) = true
          have h3 : cmpV z.a v < 0 := by
            by_cases hx : z.a = w
            · rw [hx]; exact hq
            · have a4 := cmpV_neg z.a w
              have a5 : cmpV z.a w ≠ 0 := fun h => hx (cmpV_zero.1 h)
              exact isCmp_V.trans z.a w v (by omega) hq
          rw [hh, decide_eq_true h3]
          rfl
        · have t1 : lessT w v = 0 := by
            unfold lessT knownT
            rw [if_neg (by rintro (h | h); exact hw0 h; exact hv h), decide_eq_false hq, if_neg (by decide)]
          rw [t1]
          show (hasZ z v && decide (0 ≤ cmpV z.b v)) = true
          have h3 : 0 ≤ cmpV z.b v := by
            by_cases hx : z.b = w
            · rw [hx]; omega
            · by_cases hlt : cmpV z.b v < 0
              · exfalso
                have a4 := cmpV_neg z.b w
                have a5 : cmpV z.b w ≠ 0 := fun h => hx (cmpV_zero.1 h)
                exact hq (isCmp_V.trans w z.b v (by omega) hlt)
              · omega
          rw [hh, decide_eq_true h3]
          rfl
theorem none_known (v : V) : equalZ (ofZ []) v = (false, false, false) ∧ lessZ (ofZ []) v = (false, false, false) ∧ nullZ (ofZ []) = (false, false, false) := by
  refine ⟨?_, ?_, rfl⟩
  · show (_, _, _) = _
    simp [hasZ, unkZ, ofZ, Zo.zero]
  · show (_, _, _) = _
    simp [hasZ, unkZ, ofZ, Zo.zero]
end
section
open Go.RowKit

theorem zig_of_zag {n : Nat} (h : n < 2 ^ 64) : zig (zag n) = n := by
  unfold zag
  split
  · have := zig_neg (-1 - ((n / 2 : Nat) : Int)) (by omega)
    omega
  · have := zig_pos ((n / 2 : Nat) : Int) (by omega)
    omega
/-- What a value taken off the front was put as. -/
theorem takeV_sound {b m : List UInt8} {v : V} (h : takeV b = some (v, m)) : v.fits ∧ v.s.length ≤ 1024 ∧ rightV v = true ∧ encV v ++ m = b := by
  cases b with
  | nil => cases h
  | cons c t =>
    rw [takeV] at h
    by_cases h0 : c = 0
    · rw [if_pos h0] at h
      simp only [Option.some.injEq, Prod.mk.injEq] at h
      obtain ⟨rfl, rfl⟩ := h
      exact ⟨⟨by decide, by decide, by decide, by decide⟩, by decide, by decide, by rw [h0]; rfl⟩
    · rw [if_neg h0] at h
      by_cases h1 : c = 1 ∨ c = 2
      · rw [if_pos h1] at h
        by_cases hf : (front t).2 = 0
        · rw [if_pos hf] at h; cases h
        · rw [if_neg hf] at h
          by_cases hr : rightV ⟨(c.toNat : Int), zag (front t).1, []⟩ = true
          · rw [if_pos hr] at h
            simp only [Option.some.injEq, Prod.mk.injEq] at h
            obtain ⟨rfl, rfl⟩ := h
            obtain ⟨s1, s2, s3⟩ := front_sound t (front t).1 (front t).2 rfl hf
            have hz := tk_zag_fits s1
            have hc : (c.toNat : Int) = 1 ∨ (c.toNat : Int) = 2 := by
              rcases h1 with h1 | h1
              · left; rw [h1]; rfl
              · right; rw [h1]; rfl
            refine ⟨⟨by show (0 : Int) ≤ (c.toNat : Int); omega, by show (c.toNat : Int) ≤ 255; omega, hz.1, hz.2⟩, Nat.zero_le _, hr, ?_⟩
            unfold encV
            rw [if_pos hr]
            show UInt8.ofNat (c.toNat : Int).toNat :: (if (c.toNat : Int) = 1 ∨ (c.toNat : Int) = 2 then _ else _) ++ _ = _
            rw [if_pos hc, zig_of_zag s1, Int.toNat_natCast, UInt8.ofNat_toNat, List.cons_append, ← s3]
          · rw [if_neg hr] at h; cases h
      · rw [if_neg h1] at h
        by_cases h3 : c = 3
        · rw [if_pos h3] at h
          by_cases hf : (front t).2 = 0
          · rw [if_pos hf] at h; cases h
          · rw [if_neg hf] at h
            by_cases hn : (front t).1 ≤ 1024 ∧ (front t).1 ≤ (t.drop (front t).2).length
            · rw [if_pos hn] at h
              simp only [Option.some.injEq, Prod.mk.injEq] at h
              obtain ⟨rfl, rfl⟩ := h
              obtain ⟨s1, s2, s3⟩ := front_sound t (front t).1 (front t).2 rfl hf
              have hl : ((t.drop (front t).2).take (front t).1).length = (front t).1 := by rw [List.length_take]; omega
              have hr : rightV ⟨3, 0, (t.drop (front t).2).take (front t).1⟩ = true := (rightV_iff _).2 (.inr (.inr (.inr ⟨rfl, rfl, by show ((t.drop (front t).2).take (front t).1).length ≤ 1024; omega⟩)))
              refine ⟨⟨by show (0 : Int) ≤ 3; decide, by show (3 : Int) ≤ 255; decide, by show (-9223372036854775808 : Int) ≤ 0; decide, by show (0 : Int) ≤ 9223372036854775807; decide⟩, by show ((t.drop (front t).2).take (front t).1).length ≤ 1024; omega, hr, ?_⟩
              unfold encV
              rw [if_pos hr]
              show UInt8.ofNat (3 : Int).toNat :: (if (3 : Int) = 1 ∨ (3 : Int) = 2 then _ else if (3 : Int) = 3 then enc ((t.drop (front t).2).take (front t).1).length ++ (t.drop (front t).2).take (front t).1 else _) ++ _ = _
              rw [if_neg (by decide), if_pos rfl, hl, List.cons_append, List.append_assoc, List.take_append_drop, ← s3, h3]
              rfl
            · rw [if_neg hn] at h; cases h
        · rw [if_neg h3] at h; cases h
theorem tk_whole {l m : List UInt8} {n : Nat} (h : tk l = (n, m, false)) : n < 2 ^ 64 ∧ enc n ++ m = l := by
  by_cases hf : (front l).2 = 0
  · rw [tk_no hf] at h
    simp at h
  · rw [tk_ok hf] at h
    simp only [Prod.mk.injEq, and_true] at h
    obtain ⟨rfl, rfl⟩ := h
    obtain ⟨s1, s2, s3⟩ := front_sound l (front l).1 (front l).2 rfl hf
    exact ⟨s1, s3.symm⟩
theorem tk_bad_nil {l : List UInt8} (h : (tk l).2.2 = true) : (tk l).2.1 = [] := by rw [tk_bad h]

/-- Reading all four, one behind the other. -/
def numsZ (a b : V) (s : List UInt8) : Option Zo := if (tk (tk s).2.1).2.2 = false ∧ (tk (tk s).2.1).2.1.length = 0 then some ⟨a, b, zag (tk s).1, zag (tk (tk s).2.1).1⟩ else none
theorem numsZ_put {a b : V} {s : List UInt8} {z : Zo} (h : numsZ a b s = some z) : z = ⟨a, b, zag (tk s).1, zag (tk (tk s).2.1).1⟩ ∧ enc (zig z.n) ++ enc (zig z.m) = s ∧ (-9223372036854775808 ≤ z.n ∧ z.n ≤ 9223372036854775807) ∧ -9223372036854775808 ≤ z.m ∧ z.m ≤ 9223372036854775807 := by
  unfold numsZ at h
  by_cases hc : (tk (tk s).2.1).2.2 = false ∧ (tk (tk s).2.1).2.1.length = 0
  · rw [if_pos hc] at h
    simp only [Option.some.injEq] at h
    subst h
    have h1 : (tk s).2.2 = false := by
      cases e : (tk s).2.2 with
      | false => rfl
      | true =>
        have := tk_bad_nil e
        rw [this] at hc
        cases hc.1
    have e1 : tk s = ((tk s).1, (tk s).2.1, false) := by rw [← h1]
    have e2 : tk (tk s).2.1 = ((tk (tk s).2.1).1, [], false) := by
      have := List.length_eq_zero_iff.1 hc.2
      rw [← this, ← hc.1]
    obtain ⟨s1, s2⟩ := tk_whole e1
    obtain ⟨s3, s4⟩ := tk_whole e2
    refine ⟨rfl, ?_, tk_zag_fits s1, tk_zag_fits s3⟩
    show enc (zig (zag (tk s).1)) ++ enc (zig (zag (tk (tk s).2.1).1)) = s
    rw [zig_of_zag s1, zig_of_zag s3]
    rw [List.append_nil] at s4
    rw [s4, s2]
  · rw [if_neg hc] at h; cases h
/-- Put, and read. -/
theorem takeZ_of {k : Int} {b r s : List UInt8} {v v' : V} {z : Zo} (h1 : takeV b = some (v, r)) (h2 : takeV r = some (v', s)) (h3 : numsZ v v' s = some z) : z.fits ∧ z.small 1024 ∧ putZ z = b ∧ takeZ k b = if rightZ k z then (z, 0) else (Zo.zero, 6) := by
  obtain ⟨a1, a2, a3, a4⟩ := takeV_sound h1
  obtain ⟨b1, b2, b3, b4⟩ := takeV_sound h2
  obtain ⟨c0, c1, c2, c3⟩ := numsZ_put h3
  have ea : z.a = v := by rw [c0]
  have eb : z.b = v' := by rw [c0]
  have hf : z.fits := ⟨by rw [ea]; exact a1, by rw [eb]; exact b1, c2.1, c2.2, c3.1, c3.2⟩
  have hp : putZ z = b := by
    unfold putZ
    rw [ea, eb, List.append_assoc, List.append_assoc, c1, b4, a4]
  refine ⟨hf, ⟨by rw [ea]; exact a2, by rw [eb]; exact b2⟩, hp, ?_⟩
  by_cases hr : rightZ k z
  · rw [if_pos hr]
    exact takeZ_yes ⟨hf, hr, hp⟩
  · rw [if_neg hr]
    refine takeZ_no fun ⟨y, hy⟩ => hr ?_
    obtain ⟨r', s', t', d1, d2, d3, d4⟩ := hy.front
    rw [h1] at d1
    simp only [Option.some.injEq, Prod.mk.injEq] at d1
    obtain ⟨e1, rfl⟩ := d1
    rw [h2] at d2
    simp only [Option.some.injEq, Prod.mk.injEq] at d2
    obtain ⟨e2, rfl⟩ := d2
    have e3 : zag (tk s).1 = y.n := by rw [d3]; exact zag_zig _ hy.1.n0 hy.1.n1
    have e4 : zag (tk (tk s).2.1).1 = y.m := by rw [d3]; show zag (tk t').1 = y.m; rw [d4]; exact zag_zig _ hy.1.m0 hy.1.m1
    have : z = y := by rw [c0, e1, e2, e3, e4]
    rw [this]
    exact hy.2.1
theorem takeZ_none1 {k : Int} {b : List UInt8} (h : takeV b = none) : takeZ k b = (Zo.zero, 6) := takeZ_no fun ⟨y, hy⟩ => by
  obtain ⟨r, s, t, d1, _⟩ := hy.front
  rw [h] at d1
  cases d1
theorem takeZ_none2 {k : Int} {b r : List UInt8} {v : V} (h1 : takeV b = some (v, r)) (h : takeV r = none) : takeZ k b = (Zo.zero, 6) := takeZ_no fun ⟨y, hy⟩ => by
  obtain ⟨r', s, t, d1, d2, _⟩ := hy.front
  rw [h1] at d1
  simp only [Option.some.injEq, Prod.mk.injEq] at d1
  obtain ⟨e1, rfl⟩ := d1
  rw [h] at d2
  cases d2
theorem takeZ_none3 {k : Int} {b r s : List UInt8} {v v' : V} (h1 : takeV b = some (v, r)) (h2 : takeV r = some (v', s)) (h : ¬ ((tk (tk s).2.1).2.2 = false ∧ (tk (tk s).2.1).2.1.length = 0)) : takeZ k b = (Zo.zero, 6) := takeZ_no fun ⟨y, hy⟩ => by
  obtain ⟨r', s', t', d1, d2, d3, d4⟩ := hy.front
  rw [h1] at d1
  simp only [Option.some.injEq, Prod.mk.injEq] at d1
  obtain ⟨e1, rfl⟩ := d1
  rw [h2] at d2
  simp only [Option.some.injEq, Prod.mk.injEq] at d2
  obtain ⟨e2, rfl⟩ := d2
  refine h ?_
  rw [d3]
  show (tk t').2.2 = false ∧ (tk t').2.1.length = 0
  rw [d4]
  exact ⟨rfl, rfl⟩
end
end Go.Proofs.Ytlbilmmjcfiokaa
