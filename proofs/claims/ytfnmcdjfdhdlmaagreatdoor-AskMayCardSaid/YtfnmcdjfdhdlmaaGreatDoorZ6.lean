/-
  Texts of this proof, merged: Facts, RangeText, LikeKit, Build, LikeProg, LikeQuote, LikeElem, LikeCheck.
-/
import Derived.Laws.RangeString
import Derived.Lib.OthersKept
import Derived.Shelf.Strings.BuilderK
import Derived.Test.YtfnmcdjfdhdlmaaGreatDoorZ5
import Derived.Test.YtfnmcdjfdhdlmaaGreatDoorZ3
import Derived.Test.YtfnmcdjfdhdlmaaGreatDoorProg
import Derived.Test.YtfnmcdjfdhdlmaaGreatDoorZ1
/-
  What the laws of layer 3 lean on: plain facts of letters and elements. No program.
-/
namespace Go.Proofs.YtfnmcdjfdhdlmaaGreatDoor
open Go.Lib (decodeL decodeN)

/-- The elements of a text. -/
def elsOf (p : List UInt8) : Option (List El) := els (lets p)
/-- Is a text like a pattern? -/
def isB (p s : List UInt8) : Bool := match elsOf p with
  | some ps => mt ps (lets s)
  | none => false
theorem isB_some {p s : List UInt8} {ps : List El} (h : elsOf p = some ps) : isB p s = mt ps (lets s) := by unfold isB; rw [h]
theorem isB_iff (p s : List UInt8) : isB p s = true ↔ ∃ ps, elsOf p = some ps ∧ mt ps (lets s) = true := by
  unfold isB
  cases h : elsOf p with
  | none => simp
  | some ps => simp
theorem lets_inj (a b : List UInt8) (h : lets a = lets b) : a = b := by rw [← lets_flat a, h, lets_flat]

theorem els_lit (c : List UInt8) (t : List (List UInt8)) (h : special c = false) : els (c :: t) = (els t).map (El.lit c :: ·) := by
  have hn : ¬ (c = [37] ∨ c = [95] ∨ c = [92]) := fun e => by rw [(special_iff c).2 e] at h; cases h
  rw [els.eq_def]
  simp only
  rw [if_neg (fun e => hn (.inr (.inr e))), if_neg (fun e => hn (.inl e)), if_neg (fun e => hn (.inr (.inl e)))]
theorem els_back (d : List UInt8) (t : List (List UInt8)) : els ([92] :: d :: t) = (els t).map (El.lit d :: ·) := by
  rw [els.eq_def]
  simp only
  rw [if_pos trivial]
theorem els_any (t : List (List UInt8)) : els ([37] :: t) = (els t).map (El.any :: ·) := by
  rw [els.eq_def]
  simp only
  rw [if_neg (by decide), if_pos trivial]
theorem els_one (t : List (List UInt8)) : els ([95] :: t) = (els t).map (El.one :: ·) := by
  rw [els.eq_def]
  simp only
  rw [if_neg (by decide), if_neg (by decide), if_pos trivial]

theorem els_quote (cs : List (List UInt8)) : els (cs.flatMap qls) = some (cs.map El.lit) := by
  induction cs with
  | nil => rfl
  | cons c t ih =>
    rw [List.flatMap_cons]
    unfold qls
    by_cases h : special c = true
    · rw [if_pos h]
      show els ([92] :: c :: t.flatMap qls) = _
      rw [els_back, ih]; rfl
    · rw [if_neg h]
      show els (c :: t.flatMap qls) = _
      rw [els_lit c _ (by simpa using h), ih]; rfl
theorem elsOf_quote (a : List UInt8) : elsOf (quote a) = some ((lets a).map El.lit) := by unfold elsOf; rw [lets_quote, els_quote]
theorem mt_lits (cs : List (List UInt8)) : ∀ l, mt (cs.map El.lit) l = true ↔ l = cs := by
  induction cs with
  | nil => intro l; exact mt_nil l
  | cons c t ih =>
    intro l
    rw [List.map_cons, mt_lit]
    constructor
    · rintro ⟨u, rfl, h⟩
      rw [(ih u).1 h]
    · rintro rfl
      exact ⟨t, rfl, (ih t).2 rfl⟩
/-- A text is like its quote, and no other text is. -/
theorem is_quote (a b : List UInt8) : isB (quote a) b = decide (a = b) := by
  rw [isB_some (elsOf_quote a), Bool.eq_iff_iff, mt_lits, decide_eq_true_iff]
  exact ⟨fun h => (lets_inj _ _ h).symm, fun h => by rw [h]⟩

theorem mt_ones (n : Nat) : ∀ l, mt (List.replicate n El.one) l = true ↔ l.length = n := by
  induction n with
  | zero => intro l; rw [List.replicate_zero, mt_nil, List.length_eq_zero_iff]
  | succ n ih =>
    intro l
    rw [List.replicate_succ, mt_one]
    constructor
    · rintro ⟨d, t, rfl, h⟩
      rw [List.length_cons, (ih t).1 h]
    · intro h
      cases l with
      | nil => simp at h
      | cons d t => exact ⟨d, t, rfl, (ih t).2 (by simpa using h)⟩
/-- So many _. -/
def wild (n : Nat) : List UInt8 := List.replicate n 95
theorem lets_wild (n : Nat) (m : List UInt8) : lets (wild n ++ m) = List.replicate n [95] ++ lets m := by
  induction n with
  | zero => rfl
  | succ n ih =>
    unfold wild at ih ⊢
    rw [List.replicate_succ, List.cons_append, lets_ascii _ _ (by decide), ih, List.replicate_succ, List.cons_append]
theorem els_wild (n : Nat) (t : List (List UInt8)) : els (List.replicate n [95] ++ t) = (els t).map (List.replicate n El.one ++ ·) := by
  induction n with
  | zero => simp
  | succ n ih => rw [List.replicate_succ, List.cons_append, els_one, ih, Option.map_map, List.replicate_succ]; rfl
theorem is_all (a : List UInt8) : isB [37] a = true := by
  have : elsOf [37] = some [.any] := by unfold elsOf; rw [lets_ascii _ _ (by decide), lets_nil, els_any]; rfl
  rw [isB_some this, mt_any]
  exact ⟨_, Nat.le_refl _, by rw [List.drop_length]; rfl⟩
theorem is_wild (a : List UInt8) (n : Nat) : isB (wild n) a = decide ((lets a).length = n) := by
  have : elsOf (wild n) = some (List.replicate n El.one) := by
    unfold elsOf
    have := lets_wild n []
    rw [List.append_nil] at this
    rw [this, els_wild, lets_nil]
    simp [els]
  rw [isB_some this, Bool.eq_iff_iff, mt_ones, decide_eq_true_iff]
theorem is_wild_all (a : List UInt8) : isB (wild (lets a).length ++ [37]) a = true := by
  have : elsOf (wild (lets a).length ++ [37]) = some (List.replicate (lets a).length El.one ++ [.any]) := by
    unfold elsOf
    rw [lets_wild, lets_ascii _ _ (by decide), lets_nil, els_wild, els_any]
    simp [els]
  rw [isB_some this, mt_append]
  refine ⟨_, Nat.le_refl _, ?_, ?_⟩
  · rw [mt_ones, List.take_length]
  · rw [List.drop_length, mt_any]
    exact ⟨0, Nat.zero_le _, rfl⟩
theorem is_all_wild (a : List UInt8) : isB (37 :: wild (lets a).length) a = true := by
  have : elsOf (37 :: wild (lets a).length) = some (.any :: List.replicate (lets a).length El.one) := by
    unfold elsOf
    have h := lets_wild (lets a).length []
    rw [List.append_nil] at h
    rw [lets_ascii _ _ (by decide), els_any, h, els_wild, lets_nil]
    simp [els]
  rw [isB_some this, mt_any]
  exact ⟨0, Nat.zero_le _, by rw [List.drop_zero, mt_ones]⟩

/-! ### What is fixed -/

def fixedE : List El → List UInt8 × Bool
  | [] => ([], true)
  | .any :: _ => ([], false)
  | .one :: _ => ([], false)
  | .lit c :: t => (c ++ (fixedE t).1, (fixedE t).2)

theorem fixed_begins (ps : List El) : ∀ l, mt ps l = true → (fixedE ps).1 <+: l.flatten ∧ ((fixedE ps).2 = true → l.flatten = (fixedE ps).1) := by
  induction ps with
  | nil => intro l h; rw [(mt_nil l).1 h]; exact ⟨⟨[], rfl⟩, fun _ => rfl⟩
  | cons e ps ih =>
    intro l h
    cases e with
    | any => exact ⟨⟨_, rfl⟩, fun h => by cases h⟩
    | one => exact ⟨⟨_, rfl⟩, fun h => by cases h⟩
    | lit c =>
      obtain ⟨t, rfl, h2⟩ := (mt_lit _ _ _).1 h
      obtain ⟨h3, h4⟩ := ih t h2
      rw [List.flatten_cons]
      exact ⟨(List.prefix_append_right_inj c).2 h3, fun h5 => by rw [h4 h5]; rfl⟩

theorem fixed_alone (ps : List El) : (fixedE ps).2 = true → ∃ cs : List (List UInt8), ps = cs.map El.lit ∧ (fixedE ps).1 = cs.flatten := by
  induction ps with
  | nil => intro _; exact ⟨[], rfl, rfl⟩
  | cons e ps ih =>
    intro h
    cases e with
    | any => cases h
    | one => cases h
    | lit c =>
      obtain ⟨cs, rfl, h2⟩ := ih h
      exact ⟨c :: cs, rfl, by rw [List.flatten_cons, ← h2]; rfl⟩

/-- What the elements' letters are is of the pattern's letters. -/
theorem els_mem : ∀ (n : Nat) (ls : List (List UInt8)) (ps : List El), ls.length ≤ n → els ls = some ps → ∀ c, El.lit c ∈ ps → c ∈ ls
  | _, [], ps, _, h, c, hc => by
    have : ps = [] := by simpa [els] using h.symm
    subst this
    cases hc
  | 0, _ :: _, _, hn, _, _, _ => by simp at hn
  | n + 1, d :: t, ps, hn, h, c, hc => by
    rw [els.eq_def] at h
    simp only at h
    split at h
    · split at h
      · cases h
      · rename_i d' t'
        obtain ⟨qs, hq, rfl⟩ := Option.map_eq_some_iff.1 h
        rcases List.mem_cons.1 hc with e | hc
        · cases e; simp
        · have := els_mem n t' qs (by simp at hn; omega) hq c hc
          simp [this]
    · split at h
      · obtain ⟨qs, hq, rfl⟩ := Option.map_eq_some_iff.1 h
        rcases List.mem_cons.1 hc with e | hc
        · cases e
        · exact List.mem_cons_of_mem _ (els_mem n t qs (by simpa using hn) hq c hc)
      · split at h
        · obtain ⟨qs, hq, rfl⟩ := Option.map_eq_some_iff.1 h
          rcases List.mem_cons.1 hc with e | hc
          · cases e
          · exact List.mem_cons_of_mem _ (els_mem n t qs (by simpa using hn) hq c hc)
        · obtain ⟨qs, hq, rfl⟩ := Option.map_eq_some_iff.1 h
          rcases List.mem_cons.1 hc with e | hc
          · cases e; simp
          · exact List.mem_cons_of_mem _ (els_mem n t qs (by simpa using hn) hq c hc)

/-- Letters that are ones, one behind the other, are these letters. -/
theorem lets_flatten (cs : List (List UInt8)) : (∀ c ∈ cs, letter c ∧ good c = true) → lets cs.flatten = cs := by
  induction cs with
  | nil => intro _; rfl
  | cons c t ih =>
    intro h
    have hc := h c (by simp)
    have hg : goods c := fun d hd => by
      rw [lets_one c hc.1] at hd
      rw [List.mem_singleton.1 hd]
      exact hc.2
    rw [List.flatten_cons, lets_append c _ hg, lets_one c hc.1, ih (fun d hd => h d (List.mem_cons_of_mem _ hd))]
    rfl

theorem is_alone (a : List UInt8) (ps : List El) (hp : elsOf a = some ps) (ha : goods a) (h : (fixedE ps).2 = true) : isB a (fixedE ps).1 = true := by
  obtain ⟨cs, rfl, h2⟩ := fixed_alone ps h
  rw [isB_some hp, mt_lits, h2]
  refine lets_flatten cs fun c hc => ?_
  have := els_mem _ _ _ (Nat.le_refl _) hp c (List.mem_map.2 ⟨c, hc, rfl⟩)
  exact ⟨lets_letters a c this, ha c this⟩

/-! ### Patterns, one behind the other -/

theorem els_append : ∀ (n : Nat) (x y : List (List UInt8)) (ps : List El), x.length ≤ n → els x = some ps → els (x ++ y) = (els y).map (ps ++ ·)
  | _, [], y, ps, _, h => by
    have : ps = [] := by simpa [els] using h.symm
    subst this
    simp
  | 0, _ :: _, _, _, hn, _ => by simp at hn
  | n + 1, d :: t, y, ps, hn, h => by
    rw [List.cons_append, els.eq_def]
    rw [els.eq_def] at h
    simp only at h ⊢
    split at h
    · rename_i e
      rw [if_pos e]
      split at h
      · cases h
      · rename_i d' t'
        obtain ⟨qs, hq, rfl⟩ := Option.map_eq_some_iff.1 h
        rw [List.cons_append]
        simp only
        rw [els_append n t' y qs (by simp at hn; omega) hq, Option.map_map]
        rfl
    · rename_i e
      rw [if_neg e]
      split at h
      · rename_i e2
        obtain ⟨qs, hq, rfl⟩ := Option.map_eq_some_iff.1 h
        rw [if_pos e2, els_append n t y qs (by simpa using hn) hq, Option.map_map]
        rfl
      · rename_i e2
        rw [if_neg e2]
        split at h
        · rename_i e3
          obtain ⟨qs, hq, rfl⟩ := Option.map_eq_some_iff.1 h
          rw [if_pos e3, els_append n t y qs (by simpa using hn) hq, Option.map_map]
          rfl
        · rename_i e3
          obtain ⟨qs, hq, rfl⟩ := Option.map_eq_some_iff.1 h
          rw [if_neg e3, els_append n t y qs (by simpa using hn) hq, Option.map_map]
          rfl
theorem elsOf_append (a c : List UInt8) (ps : List El) (ha : goods a) (h : elsOf a = some ps) : elsOf (a ++ c) = (elsOf c).map (ps ++ ·) := by
  unfold elsOf at *
  rw [lets_append a c ha]
  exact els_append _ _ _ _ (Nat.le_refl _) h

theorem is_parts (a b c d : List UInt8) (ha : goods a) (hb : goods b) (h1 : isB a b = true) (h2 : isB c d = true) : isB (a ++ c) (b ++ d) = true := by
  obtain ⟨ps, hp, m1⟩ := (isB_iff _ _).1 h1
  obtain ⟨qs, hq, m2⟩ := (isB_iff _ _).1 h2
  have : elsOf (a ++ c) = some (ps ++ qs) := by rw [elsOf_append a c ps ha hp, hq]; rfl
  rw [isB_some this, lets_append b d hb, mt_append]
  exact ⟨(lets b).length, by simp, by rw [List.take_left]; exact m1, by rw [List.drop_left]; exact m2⟩

/-- With a % within it: what begins with what is like the one, and goes on with what is like the other. -/
theorem is_middle (a b t : List UInt8) (ps qs : List El) (ha : goods a) (hp : elsOf a = some ps) (hq : elsOf b = some qs) (ht : goods t) :
    isB (a ++ 37 :: b) t = true ↔ ∃ i k, i ≤ k ∧ k ≤ (lets t).length ∧ isB a ((lets t).take i).flatten = true ∧ isB b ((lets t).drop k).flatten = true := by
  have e : elsOf (a ++ 37 :: b) = some (ps ++ .any :: qs) := by
    rw [elsOf_append a _ ps ha hp]
    unfold elsOf at hq ⊢
    rw [lets_ascii _ _ (by decide), els_any, hq]; rfl
  have l1 : ∀ i, lets ((lets t).take i).flatten = (lets t).take i := fun i => lets_flatten _ fun c hc => ⟨lets_letters t c (List.mem_of_mem_take hc), ht c (List.mem_of_mem_take hc)⟩
  have l2 : ∀ k, lets ((lets t).drop k).flatten = (lets t).drop k := fun k => lets_flatten _ fun c hc => ⟨lets_letters t c (List.mem_of_mem_drop hc), ht c (List.mem_of_mem_drop hc)⟩
  rw [isB_some e, mt_append]
  constructor
  · rintro ⟨i, hi, m1, m2⟩
    obtain ⟨j, hj, m3⟩ := (mt_any _ _).1 m2
    rw [List.length_drop] at hj
    refine ⟨i, i + j, by omega, by omega, ?_, ?_⟩
    · rw [isB_some hp, l1]; exact m1
    · rw [isB_some hq, l2, ← List.drop_drop]; exact m3
  · rintro ⟨i, k, h1, h2, m1, m2⟩
    rw [isB_some hp, l1] at m1
    rw [isB_some hq, l2] at m2
    refine ⟨i, by omega, m1, (mt_any _ _).2 ⟨k - i, by rw [List.length_drop]; omega, ?_⟩⟩
    rw [List.drop_drop, show i + (k - i) = k by omega]
    exact m2

end Go.Proofs.YtfnmcdjfdhdlmaaGreatDoor

/-
  A range over a text, letter by letter (valid UTF-8 or not). Over any program. The end: the library's run_next_end.
-/
namespace Go.Proofs.YtfnmcdjfdhdlmaaGreatDoor
open Go.RowKit

/-- The next letter of a text that is gone through. -/
theorem run_next_letter {P : Program} (w : World) (l : List UInt8) (pos : Nat) (h : pos < l.length) :
    ∃ r : Int, ∀ ty : TypeId, (Instr.next (.pointer (some ⟨w.heap.size, 0, none⟩)) true ty).run P (w.iter ⟨l.toArray⟩ pos) =
      .ok (.tuple #[.bool true, .int .i64 pos, .int .i32 r]) (w.iter ⟨l.toArray⟩ (pos + wid (l.drop pos))) := by
  have h' : pos < (⟨l.toArray⟩ : ByteArray).size := h
  refine ⟨(Lib.decodeL (l.drop pos)).1, fun ty => ?_⟩
  unfold wid
  simp only [Instr.next, getObj, setObj, Sem.run_bind, Sem.run, World.iter_heap, Result.andThen, h', if_true, decode_drop, World.iter_set]
  simp [goInt]

/-- .. in whatever world, the iterator in block k. -/
theorem run_next_letter_at {P : Program} (w : World) (k : Nat) (l : List UInt8) (pos : Nat) (hk : w.heap[k]? = some (.stringIter ⟨l.toArray⟩ pos)) (h : pos < l.length) :
    ∀ ty : TypeId, (Instr.next (.pointer (some ⟨k, 0, none⟩)) true ty).run P w =
      .ok (.tuple #[.bool true, .int .i64 pos, .int .i32 (Lib.decodeL (l.drop pos)).1]) (w.iterAt k ⟨l.toArray⟩ (pos + wid (l.drop pos))) := by
  intro ty
  have := Lib.run_next_any_at (P := P) w k ⟨l.toArray⟩ pos ty hk h
  rw [decode_drop] at this
  exact this

end Go.Proofs.YtfnmcdjfdhdlmaaGreatDoor

/-
  Texts as values, and what is said of patterns in the walks of layer 3: general words.
-/
namespace Go.Proofs.YtfnmcdjfdhdlmaaGreatDoor
open Go.RowKit

/-- A text as a value. -/
def sv (l : List UInt8) : Value := .string ⟨l.toArray⟩
theorem sv_oneCell (ls : List (List UInt8)) : ∀ u ∈ ls.map sv, u.oneCell' = true := by
  intro u hu
  obtain ⟨c, _, rfl⟩ := List.mem_map.1 hu
  rfl

theorem cells_new (w : World) (xs : List Value) (t : TypeId) : ∀ j u, xs[j]? = some u → (w.alloc (.cells xs.toArray t)).cell? ((⟨w.heap.size, 0, none⟩ : Addr).add j) = some u := by
  intro j u hj
  rw [add_at, Nat.zero_add]
  unfold World.cell?
  rw [heap_alloc_new]
  simpa using hj

theorem extract_take (l : List UInt8) (k : Nat) (_h : k ≤ l.length) : (⟨l.toArray⟩ : ByteArray).extract 0 k = ⟨(l.take k).toArray⟩ := by
  apply ByteArray.ext
  simp [ByteArray.data_extract]
theorem extract_drop (l : List UInt8) (k : Nat) (_h : k ≤ l.length) : (⟨l.toArray⟩ : ByteArray).extract k l.length = ⟨(l.drop k).toArray⟩ := by
  apply ByteArray.ext
  simp only [ByteArray.data_extract, List.extract_toArray, List.extract_eq_take_drop]
  rw [List.take_of_length_le (by rw [List.length_drop]; omega)]

theorem Tryz.info_string : (Tryz.prog.info? 9).map (fun i => (i.zero, i.size, i.bytes)) = some (some (.string ByteArray.empty), 1, 16) := by kernel_rfl

theorem own_addr {base : Nat} {e : TypeId} {size : Nat} {w : World} {x : Addr} {n cap : Nat} {xs : List Value} (h : w.ownsRow base e size (.slice (some x) n cap) n xs) : ∃ g, x = ⟨g, 0, none⟩ ∧ base ≤ g ∧ g < w.heap.size := by
  rcases h.2 with ⟨h0, _⟩ | ⟨g, cap', cur, h0, hb, hg, _⟩
  · cases h0
  · simp only [Value.slice.injEq, Option.some.injEq] at h0
    exact ⟨g, h0.1, hb, (Array.getElem?_eq_some_iff.1 hg).1⟩

theorem owns_baseK {b b' : Nat} {e : TypeId} {size : Nat} {w : World} {v : Value} {n : Nat} {xs : List Value} (h : w.ownsRow b e size v n xs) (hb : b' ≤ b) : w.ownsRow b' e size v n xs := by
  refine ⟨h.1, ?_⟩
  rcases h.2 with h | ⟨g, cap, cur, h1, h2, h3⟩
  · exact .inl h
  · exact .inr ⟨g, cap, cur, h1, by omega, h3⟩

/-- Why a text is no pattern. -/
def errN (l : List UInt8) : Int := if (elsOf l).isNone = true then 30 else 0
theorem errN_some {l : List UInt8} {ps : List El} (h : elsOf l = some ps) : errN l = 0 := by unfold errN; rw [h]; rfl
theorem errN_none {l : List UInt8} (h : elsOf l = none) : errN l = 30 := by unfold errN; rw [h]; rfl

theorem sv_append (x y : List UInt8) : (⟨x.toArray⟩ : ByteArray) ++ ⟨y.toArray⟩ = ⟨(x ++ y).toArray⟩ := by
  apply ByteArray.ext
  simp [ByteArray.data_append]

theorem quote_len (l : List UInt8) : (quote l).length ≤ 2 * l.length := by
  refine lets_ind (M := fun l => (quote l).length ≤ 2 * l.length) (by simp [quote, lets_nil]) (fun l h ih => ?_) l
  have hb := wid_bounds l h
  have e : quote l = qc (l.take (wid l)) ++ quote (l.drop (wid l)) := by unfold quote; rw [lets_cons l h, List.flatMap_cons]
  have h1 : (qc (l.take (wid l))).length ≤ (l.take (wid l)).length + 1 := by unfold qc; split <;> simp
  rw [e, List.length_append]
  rw [List.length_drop] at ih
  rw [List.length_take] at h1
  omega

/-- What is fixed of a pattern; nothing, if it is none. -/
def fixS (l : List UInt8) : List UInt8 := match elsOf l with
  | some ps => (fixedE ps).1
  | none => []
def fixB (l : List UInt8) : Bool := match elsOf l with
  | some ps => (fixedE ps).2
  | none => false
theorem fix_some {l : List UInt8} {ps : List El} (h : elsOf l = some ps) : fixS l = (fixedE ps).1 ∧ fixB l = (fixedE ps).2 := by unfold fixS fixB; rw [h]; exact ⟨rfl, rfl⟩
theorem fix_none {l : List UInt8} (h : elsOf l = none) : fixS l = [] ∧ fixB l = false := by unfold fixS fixB; rw [h]; exact ⟨rfl, rfl⟩

theorem els_len : ∀ (n : Nat) (ls : List (List UInt8)) (ps : List El), ls.length ≤ n → els ls = some ps → ps.length ≤ ls.length ∧ ∀ c, El.lit c ∈ ps → c ∈ ls := fun n ls ps hn h => ⟨by
    induction n generalizing ls ps with
    | zero =>
      have : ls = [] := List.length_eq_zero_iff.1 (by omega)
      subst this
      have : ps = [] := by simpa [els] using h.symm
      subst this
      exact Nat.le_refl _
    | succ n ih =>
      cases ls with
      | nil =>
        have : ps = [] := by simpa [els] using h.symm
        subst this
        exact Nat.le_refl _
      | cons d t =>
        rw [els.eq_def] at h
        simp only at h
        simp only [List.length_cons] at hn ⊢
        split at h
        · split at h
          · cases h
          · rename_i d' t'
            obtain ⟨qs, hq, rfl⟩ := Option.map_eq_some_iff.1 h
            have := ih t' qs (by simp at hn; omega) hq
            simp
            omega
        · split at h
          · obtain ⟨qs, hq, rfl⟩ := Option.map_eq_some_iff.1 h
            have := ih t qs (by omega) hq
            simp
            omega
          · split at h
            · obtain ⟨qs, hq, rfl⟩ := Option.map_eq_some_iff.1 h
              have := ih t qs (by omega) hq
              simp
              omega
            · obtain ⟨qs, hq, rfl⟩ := Option.map_eq_some_iff.1 h
              have := ih t qs (by omega) hq
              simp
              omega, els_mem _ _ _ hn h⟩

end Go.Proofs.YtfnmcdjfdhdlmaaGreatDoor

/-
  A strings.Builder of the call's own: WriteString, WriteRune of an ASCII letter, String.
-/
namespace Go.Proofs.YtfnmcdjfdhdlmaaGreatDoor
open Go.RowKit Go.Shelf

/-- A builder at the block b, the first of the call's own being B, that holds these bytes. -/
def Bld (B b : Nat) (l : List UInt8) (w : World) : Prop := Lib.IsBuilderF 137 5 B b (Lib.byteCells l) w

theorem bld_info : (Tryz.prog.info? 137).map (·.size) = some 2 := by kernel_rfl
theorem bld_lies : liesAt Tryz.prog Tryz.prog.depth 137 (2 / Tryz.prog.cellsOf 137) 0 137 1 = true := by kernel_rfl
theorem bld_byte : (Tryz.prog.info? 5).map (fun i => (i.zero, i.size, i.bytes)) = some (some (.int .u8 0), 1, 1) := by kernel_rfl

def bldRen : Go.Shelf.Ren := ⟨fun | 169 => 107 | n => n, fun | 70 => 135 | 9 => 9 | 0 => 0 | 72 => 137 | 37 => 22 | 127 => 157 | 3 => 3 | 5 => 5 | n => n, fun | n => n⟩
theorem bldLays : Go.Proofs.Lays.n169 Tryz.prog bldRen := {
  mixed := by kernel_rfl
  f169 := Tryz.func107.trans (congrArg some (by kernel_rfl))
  t0 := Tryz.underlying0
  a0 := Tryz.isAgg0
  z0 := Tryz.sizeOf0
  v0 := Tryz.zeroValue0
  t3 := Tryz.underlying3
  a3 := Tryz.isAgg3
  z3 := Tryz.sizeOf3
  v3 := Tryz.zeroValue3
  t9 := Tryz.underlying9
  a9 := Tryz.isAgg9
  z9 := Tryz.sizeOf9
  v9 := Tryz.zeroValue9
  t37 := Tryz.underlying22
  a37 := Tryz.isAgg22
  z37 := Tryz.sizeOf22
  v37 := Tryz.zeroValue22
  t70 := Tryz.underlying135
  a70 := Tryz.isAgg135
  z70 := Tryz.sizeOf135
  v70 := Tryz.zeroValue135
  t72 := Tryz.underlying137
  a72 := Tryz.isAgg137
  z72 := Tryz.sizeOf137
  v72 := Tryz.zeroValue137
  t127 := Tryz.underlying157
  a127 := Tryz.isAgg157
  z127 := Tryz.sizeOf157
  v127 := Tryz.zeroValue157 }
theorem bldExtra : Builder.Extra Tryz.prog bldRen := {
  sizeBuilder := by kernel_rfl
  liesBuilder := by kernel_rfl
  t5 := Tryz.underlying5
  a5 := Tryz.isAgg5
  z5 := Tryz.sizeOf5
  v5 := Tryz.zeroValue5
  infoByte := by kernel_rfl
  cellsByte := by kernel_rfl
  sizeByte := by kernel_rfl
  neB5 := by decide }

theorem bldString (B b : Nat) (l : List UInt8) (w : World) (h : Bld B b l w) (hBw : B ≤ w.heap.size) :
    Calls Tryz.prog 107 #[.pointer (some ⟨b, 0, none⟩)] w fun e w' => e = .returned (.string ⟨l.toArray⟩) ∧ Bld B b l w' ∧ Below B w w' ∧ Lib.OthersKept 5 (some b) w w' :=
  Any.Builder_String_any_k bldLays bldExtra B b l w h hBw

theorem bldFresh (w : World) : Bld w.heap.size w.heap.size [] (w.alloc (.cells #[.pointer none, .slice none 0 0] 137)) := Lib.IsBuilderF.of (Lib.fresh_isBuilder _ _ w)

set_option maxHeartbeats 1000000 in
set_option maxRecDepth 100000 in
theorem copyCheck_used (b : Nat) (w : World) (h0 : w.cell? ⟨b, 0, none⟩ = some (.pointer (some ⟨b, 0, none⟩))) :
    Calls Tryz.prog 123 #[.pointer (some ⟨b, 0, none⟩)] w fun e w' => e = .returned (.tuple #[]) ∧ w' = w := by
  obtain ⟨j, hj, _⟩ := Option.map_eq_some_iff.1 bld_info
  go_enter Tryz.func123, Tryz.ntmps123
  go_wp2
  rw [Lib.run_neq_ptr_same w _ Tryz.underlying135 hj]
  go_wp2
  go_end0
  exact ⟨rfl, rfl⟩

set_option maxHeartbeats 1000000 in
set_option maxRecDepth 100000 in
theorem copyCheck_fresh (b : Nat) (w : World) (h0 : w.cell? ⟨b, 0, none⟩ = some (.pointer none)) (hsh : w.shape? b = some (137, 2)) (hfz : w.frozen? ⟨b, 0, none⟩ = false) :
    Calls Tryz.prog 123 #[.pointer (some ⟨b, 0, none⟩)] w fun e w' => e = .returned (.tuple #[]) ∧ w' = w.setCell ⟨b, 0, none⟩ (.pointer (some ⟨b, 0, none⟩)) := by
  obtain ⟨j, hj, hjs⟩ := Option.map_eq_some_iff.1 bld_info
  go_enter Tryz.func123, Tryz.ntmps123
  go_wp2
  rw [Lib.run_to_unsafe w ⟨b, 0, none⟩ Tryz.underlying135 Tryz.underlying163 hj (by rw [hjs]; decide) hsh (Nat.zero_lt_succ 1)]
  simp only [Result.andThen]
  rw [Oper.upon_value]
  go_wp2
  rw [run_callFunc_extern Tryz.func129 (by kernel_rfl) (by kernel_rfl) (by kernel_rfl) (e := Extern.AbiNoEscape.same) (by kernel_rfl)]
  rw [Lib.run_noEscape]
  simp only [Result.andThen]
  rw [Oper.upon_value]
  go_wp2
  rw [Lib.run_from_unsafe w ⟨b, 0, none⟩ Tryz.underlying163 Tryz.underlying135 hj hsh bld_lies]
  simp only [Result.andThen]
  rw [Oper.upon_value]
  go_wp2
  go_end0
  exact ⟨rfl, rfl⟩

theorem copyCheck_any (B b : Nat) (bs : List Value) (w : World) (h : Lib.IsBuilderF 137 5 B b bs w) :
    Calls Tryz.prog 123 #[.pointer (some ⟨b, 0, none⟩)] w fun e w' => e = .returned (.tuple #[]) ∧ (Lib.BuilderAtF 137 5 B b (.pointer (some ⟨b, 0, none⟩)) bs w' ∧ Below B w w' ∧ Lib.OthersKept 5 (some b) w w') := by
  rcases h with h | h
  · refine (copyCheck_fresh b w h.cell0 h.shape h.frozen0).mono ?_
    rintro e w' ⟨rfl, rfl⟩
    exact ⟨rfl, h.used _, (Below.refl B w).setCell (p := ⟨b, 0, none⟩) h.1 _, (Lib.OthersKept.refl _ _ w).setCell ⟨b, 0, none⟩ rfl _⟩
  · refine (copyCheck_used b w h.cell0).mono ?_
    rintro e w' ⟨rfl, rfl⟩
    exact ⟨rfl, h, Below.refl B _, Lib.OthersKept.refl _ _ _⟩

set_option maxHeartbeats 2000000 in
set_option maxRecDepth 100000 in
theorem bldWriteString (B b : Nat) (l m : List UInt8) (w : World) (h : Bld B b l w) (hlen : l.length + m.length ≤ 140737488355328) (hBw : B ≤ w.heap.size) :
    Calls Tryz.prog 108 #[.pointer (some ⟨b, 0, none⟩), .string ⟨m.toArray⟩] w fun e w' => (∃ n, e = .returned (.tuple #[.int .i64 n, .nilIface])) ∧ (Bld B b (l ++ m) w' ∧ Below B w w' ∧ Lib.OthersKept 5 (some b) w w') := by
  obtain ⟨i0, hi, hz0, hz1, hz2⟩ := info_parts bld_byte
  generalize hs : (⟨m.toArray⟩ : ByteArray) = s
  have hsz : s.size = m.length := by rw [← hs]; rfl
  have hcells : Lib.byteCells (l ++ m) = Lib.byteCells l ++ Lib.strCells s := by rw [Lib.byteCells_append, Lib.strCells_eq, ← hs]
  have hbl : (Lib.byteCells l).length = l.length := Lib.byteCells_length l
  unfold Bld at h ⊢
  rw [hcells]
  generalize Lib.byteCells l = bs at h hbl ⊢
  have hlen : bs.length + s.size ≤ 140737488355328 := by omega
  clear hcells hs hbl hsz
  go_enter Tryz.func108, Tryz.ntmps108
  go_wp2_with fail
  refine (copyCheck_any B b bs _ h).mono ?_
  rintro e w1 ⟨rfl, h1, hb1, hk1⟩
  obtain ⟨hB, v, hbk, hown, hne⟩ := h1
  have c0 : w1.cell? ⟨b, 0, none⟩ = some (.pointer (some ⟨b, 0, none⟩)) := by rw [Lib.cell_of_heap hbk]; rfl
  have c1 : w1.cell? ⟨b, 1, none⟩ = some v := by rw [Lib.cell_of_heap hbk]; rfl
  go_wp2_with (at_builtin; refine Lib.wpList_append_own_stringF _ rfl _ _ 22 9 rfl B 5 i0 Tryz.underlying22 Tryz.underlying9 hi hz0 hz1 hz2 _ _ _ rfl hown s rfl ?c3 ?c4 ?c5 ?_)
  case c3 => unfold maxLen; omega
  case c4 => omega
  case c5 => have := hb1.size; omega
  intro v' w2 hown' hgrow _
  have hlt : b < w1.heap.size := by
    rcases Nat.lt_or_ge b w1.heap.size with h' | h'
    · exact h'
    · simp [Array.getElem?_eq_none h'] at hbk
  have hb2 : w2.heap[b]? = some (.cells #[.pointer (some ⟨b, 0, none⟩), v] 137 (0, 0)) := by
    rw [hgrow.block b hlt (fun e => hne e.symm)]
    exact hbk
  have d0 : w2.cell? ⟨b, 0, none⟩ = some (.pointer (some ⟨b, 0, none⟩)) := by rw [Lib.cell_of_heap hb2]; rfl
  have d1 : w2.cell? ⟨b, 1, none⟩ = some v := by rw [Lib.cell_of_heap hb2]; rfl
  have f1 : w2.frozen? ⟨b, 1, none⟩ = false := Lib.frozen_of_heap hb2 1
  obtain ⟨ao, n', cap, rfl⟩ : ∃ ao n' cap, v' = .slice ao n' cap := by
    rcases hown'.2 with ⟨hv, _⟩ | ⟨g, cap, cur, fz, hv, _⟩
    · exact ⟨_, _, _, hv⟩
    · exact ⟨_, _, _, hv⟩
  go_wp2
  go_ret2
  refine ⟨⟨_, rfl⟩, ?_, ?_, (hk1.grown hgrow (Lib.ownsRowF_kind hown)).setCell ⟨b, 1, none⟩ rfl _⟩
  · exact Or.inr (Lib.BuilderAtF.put (T := 137) (e := 5) hB hb2 (bs' := bs ++ Lib.strCells s) (by simpa [Lib.strCells_length] using hown') (by decide))
  · exact (hb1.grown hgrow (by have := hb1.size; omega) (fun k hk => (hown.lt k hk).1)).setCell (p := ⟨b, 1, none⟩) hB _

end Go.Proofs.YtfnmcdjfdhdlmaaGreatDoor

/-
  The program's Letters and Quote.
-/
namespace Go.Proofs.YtfnmcdjfdhdlmaaGreatDoor
open Go.RowKit

theorem extract_mid (l : List UInt8) (i k : Nat) (_h : k ≤ l.length) : (⟨l.toArray⟩ : ByteArray).extract i k = ⟨((l.drop i).take (k - i)).toArray⟩ := by
  apply ByteArray.ext
  simp [ByteArray.data_extract, List.extract_eq_take_drop]

/-- What is the program's own row of texts: an iterator's block is no row's. -/
theorem owns_iterAt {base k : Nat} {e : TypeId} {w : World} {v : Value} {n : Nat} {xs : List Value} {s : ByteArray} {pos pos' : Nat} (h : w.ownsRow base e 1 v n xs) (hk : w.heap[k]? = some (.stringIter s pos)) : (w.iterAt k s pos').ownsRow base e 1 v n xs := by
  refine ⟨h.1, ?_⟩
  rcases h.2 with hn | ⟨g, cap, cur, hv, hbg, hg, rest⟩
  · exact .inl hn
  · have hkg : g ≠ k := by
      intro e1
      rw [e1, hk] at hg
      cases hg
    exact .inr ⟨g, cap, cur, hv, hbg, (Lib.iterAt_other w k g s pos' hkg).trans hg, rest⟩

theorem owns_not_iter {base k : Nat} {e : TypeId} {w : World} {v : Value} {n : Nat} {xs : List Value} {s : ByteArray} {pos : Nat} (h : w.ownsRow base e 1 v n xs) (hk : w.heap[k]? = some (.stringIter s pos)) : v.ownBlock ≠ some k := by
  rcases h.2 with ⟨rfl, _⟩ | ⟨g, cap, cur, rfl, hbg, hg, rest⟩
  · simp [Value.ownBlock]
  · intro e1
    simp only [Value.ownBlock, Option.some.injEq] at e1
    rw [e1, hk] at hg
    cases hg

set_option maxRecDepth 100000 in
set_option maxHeartbeats 1000000 in
theorem Letters_any (l : List UInt8) (w : World) (_hT : Tabs w) (hl : l.length ≤ 5000) :
    Calls Tryz.prog 111 #[sv l] w (Fresh 9 w ((lets l).map sv)) := by
  obtain ⟨i0, hi, hz0, hz1, hz2⟩ := info_parts Tryz.info_string
  have HL := Lib.hid hl
  have HLL := Lib.hid (lets_length l)
  clear hl _hT
  unfold sv
  go_enter Tryz.func111, Tryz.ntmps111
  go_wp2_with fail
  go_loopw [3, 4] (fun v f wr => ∃ (fr pos : Nat) (pre : List (List UInt8)), f = .int .i64 fr ∧ pos ≤ l.length ∧ ((fr = 0 ∧ pos = 0) ∨ (fr < l.length ∧ pos = fr + wid (l.drop fr))) ∧ lets l = pre ++ lets (l.drop fr) ∧ wr.ownsRow (w.heap.size + 1) 9 1 v pre.length (pre.map sv) ∧ wr.heap[w.heap.size]? = some (.stringIter ⟨l.toArray⟩ pos) ∧ Below w.heap.size w wr) (fun _ _ wr => l.length - wr.iterPos w.heap.size)
  case atStart => exact ⟨0, 0, [], rfl, Nat.zero_le _, .inl ⟨rfl, rfl⟩, rfl, World.ownsRow_nil _ _ _ _, World.iter_heap _ _ _, (Below.refl _ w).alloc (Nat.le_refl _) _⟩
  case round =>
    obtain ⟨fr, pos, pre, rfl, hpos, hat, hlets, hown, hit, hbel⟩ := hrel
    have HAT := Lib.hid hat
    have HLETS := Lib.hid hlets
    have HOWN := Lib.hid hown
    have HIT := Lib.hid hit
    have HBEL := Lib.hid hbel
    have hsz : w.heap.size < wr.heap.size := (Array.getElem?_eq_some_iff.1 hit).1
    have hpre : pre.length ≤ 5000 := by have h1 := HLL.out; have h2 := congrArg List.length hlets; rw [List.length_append] at h2; have := HL.out; omega
    clear hlets hown hbel
    by_cases hlt : pos < l.length
    · have hnx := run_next_letter_at (P := Tryz.prog) wr w.heap.size l pos hit hlt
      have hne : l.drop pos ≠ [] := fun h => by rw [List.drop_eq_nil_iff] at h; omega
      have HW := Lib.hid (wid_bounds _ hne)
      have HIT2 := Lib.hid (Lib.iterAt_heap wr w.heap.size ⟨l.toArray⟩ pos (pos + wid (l.drop pos)) hit)
      have HO2 := Lib.hid (owns_iterAt (pos' := pos + wid (l.drop pos)) HOWN.out hit)
      have HB2 := Lib.hid (Lib.below_iterAt HBEL.out (k := w.heap.size) (Nat.le_refl _) ⟨l.toArray⟩ (pos + wid (l.drop pos)))
      have HS2 := Lib.hid (Lib.iterAt_size wr w.heap.size ⟨l.toArray⟩ (pos + wid (l.drop pos)))
      clear hit
      generalize hW2 : wr.iterAt w.heap.size ⟨l.toArray⟩ (pos + wid (l.drop pos)) = W2 at hnx HIT2 HO2 HB2 HS2
      clear hW2
      rcases hat with ⟨rfl, rfl⟩ | ⟨h1, h2⟩
      · go_wp2_with fail
        go_roundw
        case rel => exact ⟨0, 0 + wid (l.drop 0), pre, rfl, by have := HW.out; rw [List.length_drop] at this; omega, .inr ⟨hlt, rfl⟩, HLETS.out, HO2.out, HIT2.out, HB2.out⟩
        case measure =>
          simp only [World.iterPos, HIT.out, HIT2.out]
          have := HW.out
          omega
      · have hne0 : l.drop fr ≠ [] := fun h => by rw [List.drop_eq_nil_iff] at h; omega
        have hb0 := wid_bounds _ hne0
        have hgt : fr < pos := by omega
        have HC := Lib.hid (lets_cons _ hne0)
        have HX := Lib.hid (extract_mid l fr pos hpos)
        have hpf : pos - fr = wid (l.drop fr) := by omega
        have HD := Lib.hid (show (l.drop fr).drop (wid (l.drop fr)) = l.drop pos by rw [List.drop_drop, h2])
        rw [hpf] at HX
        generalize wid (l.drop fr) = k at HX HC HD
        clear hb0 h2 hpf hne0
        have hl5 : l.length ≤ 5000 := HL.out
        have hw2 : w.heap.size < W2.heap.size := by have := HS2.out; omega
        go_wp2_with (at_builtin; go_loud (refine wpList_append_own _ rfl (.tmp 14) (.tmp 19) 112 rfl (w.heap.size + 1) 9 i0 (.string ByteArray.empty) 1 16 Tryz.underlying112 hi hz0 hz1 hz2 rfl (by decide) _ _ _ rfl (HO2.out.alloc _) ⟨W2.heap.size, 0, none⟩ 1 1 [.string ((⟨l.toArray⟩ : ByteArray).extract fr pos)] rfl rfl (cells_new _ _ _) (by simp [Value.oneCell']) (by unfold maxLen; first | omega | (simp; omega)) (by first | omega | (simp; omega)) (by first | omega | (simp; omega)) ?_); intro v3 w3 hown3 hgrow3 _; have HO3 := Lib.hid hown3; have HG3 := Lib.hid hgrow3; clear hown3 hgrow3)
        go_roundw
        case rel =>
          refine ⟨pos, pos + wid (l.drop pos), pre ++ [(l.drop fr).take k], rfl, by have := HW.out; rw [List.length_drop] at this; omega, .inr ⟨hlt, rfl⟩, ?_, ?_, ?_, ?_⟩
          · rw [HLETS.out, HC.out, HD.out, List.append_assoc]; rfl
          · have h := HO3.out
            rw [HX.out] at h
            rw [List.length_append, List.map_append]
            exact h
          · rw [HG3.out.block w.heap.size (by simp; omega) (fun e => owns_not_iter HO2.out HIT2.out e.symm), Lib.alloc_old W2 _ w.heap.size (by omega)]
            exact HIT2.out
          · exact (HB2.out.alloc (by omega) _).grown HG3.out (by simp; omega) (fun b hb => by have := (HO2.out.lt b hb).1; omega)
        case measure =>
          have h : w3.heap[w.heap.size]? = some (.stringIter ⟨l.toArray⟩ (pos + wid (l.drop pos))) := by
            rw [HG3.out.block w.heap.size (by simp; omega) (fun e => owns_not_iter HO2.out HIT2.out e.symm), Lib.alloc_old W2 _ w.heap.size (by omega)]
            exact HIT2.out
          simp only [World.iterPos, HIT.out, h]
          have := HW.out
          omega
    · have hend := fun ty => Lib.run_next_end_at (P := Tryz.prog) wr w.heap.size ⟨l.toArray⟩ pos ty hit hlt
      have hposl : pos = l.length := by omega
      clear hit
      rcases hat with ⟨rfl, rfl⟩ | ⟨h1, h2⟩
      · have HN := Lib.hid (show lets l = pre by rw [HLETS.out, List.drop_eq_nil_of_le (show l.length ≤ 0 by omega), lets_nil, List.append_nil])
        clear hposl
        go_wp2_with fail
        go_ret
        refine ⟨_, rfl, ?_, HBEL.out⟩
        show wr.ownsRow w.heap.size 9 1 _ _ ((lets l).map sv)
        rw [HN.out, List.length_map]
        exact owns_baseK HOWN.out (by omega)
      · have hne0 : l.drop fr ≠ [] := fun h => by rw [List.drop_eq_nil_iff] at h; omega
        have HN := Lib.hid (show lets l = pre ++ [l.drop fr] by
          rw [HLETS.out, lets_cons _ hne0, List.take_of_length_le (by rw [List.length_drop]; omega), show (l.drop fr).drop (wid (l.drop fr)) = [] from List.drop_eq_nil_of_le (by rw [List.length_drop]; omega), lets_nil])
        have HX := Lib.hid (extract_drop l fr (by omega))
        have hl5 : l.length ≤ 5000 := HL.out
        clear h2 hposl hne0
        go_wp2_with (at_builtin; go_loud (refine wpList_append_own _ rfl (.tmp 26) (.tmp 30) 112 rfl (w.heap.size + 1) 9 i0 (.string ByteArray.empty) 1 16 Tryz.underlying112 hi hz0 hz1 hz2 rfl (by decide) _ _ _ rfl (HOWN.out.alloc _) ⟨wr.heap.size, 0, none⟩ 1 1 [.string ((⟨l.toArray⟩ : ByteArray).extract fr l.length)] rfl rfl (cells_new _ _ _) (by simp [Value.oneCell']) (by unfold maxLen; first | omega | (simp; omega)) (by first | omega | (simp; omega)) (by first | omega | (simp; omega)) ?_); intro v3 w3 hown3 hgrow3 _; have HO3 := Lib.hid hown3; have HG3 := Lib.hid hgrow3; clear hown3 hgrow3)
        go_ret
        refine ⟨_, rfl, ?_, (HBEL.out.alloc (by omega) _).grown HG3.out (by simp; omega) (fun b hb => by have := (HOWN.out.lt b hb).1; omega)⟩
        show w3.ownsRow w.heap.size 9 1 _ _ ((lets l).map sv)
        have h := HO3.out
        rw [HX.out] at h
        rw [HN.out, List.length_map, List.length_append, List.map_append]
        exact owns_baseK h (by omega)

end Go.Proofs.YtfnmcdjfdhdlmaaGreatDoor

/-
  The program's Quote.
-/
namespace Go.Proofs.YtfnmcdjfdhdlmaaGreatDoor
open Go.RowKit
open Go.Lib (decodeL decodeN)

theorem rune_small (n b0 b1 b2 b3 : Nat) (h : (decodeN n b0 b1 b2 b3).1 < 128) : b0 < 128 ∧ decodeN n b0 b1 b2 b3 = (b0, 1) := by
  unfold Go.Lib.decodeN at h ⊢
  by_cases h0 : b0 < 128
  · simp [h0]
  · exfalso
    rw [if_neg h0] at h
    repeat' split at h
    all_goals simp only at h
    all_goals omega

/-- What is a letter's number where it is one of those that a pattern is made of. -/
theorem rune_special (m : List UInt8) (hm : m ≠ []) (b : UInt8) (hb : b.toNat < 128) : (decodeL m).1 = b.toNat ↔ m.take (wid m) = [b] := by
  obtain ⟨c, r, rfl⟩ : ∃ c r, m = c :: r := by
    cases m with
    | nil => exact absurd rfl hm
    | cons c r => exact ⟨c, r, rfl⟩
  constructor
  · intro h
    have h2 := h
    rw [decodeL_eq] at h2
    obtain ⟨h3, h4⟩ := rune_small _ _ _ _ _ (by rw [h2]; exact hb)
    rw [h4] at h2
    have : c = b := UInt8.toNat_inj.1 h2
    subst this
    rw [wid_ascii c r hb]
    rfl
  · intro h
    have hc : c = b := by
      have hw := wid_bounds (c :: r) hm
      obtain ⟨k, hk⟩ : ∃ k, wid (c :: r) = k + 1 := ⟨wid (c :: r) - 1, by omega⟩
      rw [hk, List.take_succ_cons] at h
      exact (List.cons.inj h).1
    subst hc
    rw [decode_ascii' c r hb]

def spB (r : Nat) : Bool := decide (r = 37) || decide (r = 95) || decide (r = 92)
theorem spB_special (m : List UInt8) (hm : m ≠ []) : spB (decodeL m).1 = special (m.take (wid m)) := by
  have a := rune_special m hm 37 (by decide)
  have b := rune_special m hm 95 (by decide)
  have c := rune_special m hm 92 (by decide)
  unfold spB special
  rw [show (37 : UInt8).toNat = 37 from rfl] at a
  rw [show (95 : UInt8).toNat = 95 from rfl] at b
  rw [show (92 : UInt8).toNat = 92 from rfl] at c
  rw [decide_eq_decide.2 a, decide_eq_decide.2 b, decide_eq_decide.2 c]

theorem quote_step (m : List UInt8) (hm : m ≠ []) : quote m = qc (m.take (wid m)) ++ quote (m.drop (wid m)) := by unfold quote; rw [lets_cons m hm, List.flatMap_cons]

end Go.Proofs.YtfnmcdjfdhdlmaaGreatDoor

/-
  The program's elements, and Check.
-/
namespace Go.Proofs.YtfnmcdjfdhdlmaaGreatDoor
open Go.RowKit

/-- An element's cells. -/
def pC : El → List Value
  | .any => [.int .u8 2, .string ByteArray.empty]
  | .one => [.int .u8 1, .string ByteArray.empty]
  | .lit c => [.int .u8 0, sv c]
theorem pC_oneCell (e : El) : ∀ u ∈ pC e, u.oneCell' = true := by
  intro u hu
  cases e <;> simp only [pC, List.mem_cons, List.not_mem_nil, or_false] at hu <;> rcases hu with rfl | rfl <;> rfl
theorem pC_len (ps : List El) : (ps.flatMap pC).length = ps.length * 2 := by
  induction ps with
  | nil => rfl
  | cons e t ih =>
    rw [List.flatMap_cons, List.length_append, ih, List.length_cons, show (pC e).length = 2 by cases e <;> rfl]
    omega
theorem pC_at (ps : List El) (j f : Nat) (hj : j < ps.length) (hf : f < 2) : (ps.flatMap pC)[j * 2 + f]? = (pC ps[j])[f]? := by
  induction ps generalizing j with
  | nil => simp at hj
  | cons e t ih =>
    have he : (pC e).length = 2 := by cases e <;> rfl
    rw [List.flatMap_cons]
    cases j with
    | zero => rw [List.getElem?_append_left (by omega), Nat.zero_mul, Nat.zero_add]; rfl
    | succ j =>
      rw [List.getElem?_append_right (by omega), he, show (j + 1) * 2 + f - 2 = j * 2 + f by omega]
      exact ih j (by simpa using hj)

theorem Tryz.info_element : (Tryz.prog.info? 139).map (fun i => (i.zero, i.size, i.bytes)) = some (some (.agg #[.int .u8 0, .string ByteArray.empty]), 2, 24) := by kernel_rfl

/-- append(l, x) of an element. -/
theorem wpList_append_pC {ops : Array Oper} {rest : List Oper} {o : Oper} {a : Act} {Q : Exit → Act → World → Prop} {w : World} (hgd : o.guard = none) (s x : Operand)
    (ho : o.op = .call { callee := .builtin .append, args := #[s, x], argTypes := #[132, 132] })
    (base : Nat) (v : Value) (ps : List El) (e : El) (hs : a.eval s = v) (hown : w.ownsRow base 139 2 v ps.length (ps.flatMap pC))
    (hx : a.eval x = .slice (some ⟨w.heap.size, 0, none⟩) 1 1) (hp : ps.length ≤ 5000) (hbase : base ≤ w.heap.size)
    (h : ∀ v' w', w'.ownsRow base 139 2 v' (ps ++ [e]).length ((ps ++ [e]).flatMap pC) → Below base w w' → wpList Tryz.prog ops Q rest (a.put o.dst v') w') :
    wpList Tryz.prog ops Q (o :: rest) a (w.alloc (.cells (pC e).toArray 139)) := by
  obtain ⟨i0, hi, hz0, hz1, hz2⟩ := info_parts Tryz.info_element
  have hc := cells_new w (pC e) 139
  refine wpList_append_own _ hgd s x 132 ho base 139 i0 _ 2 24 Tryz.underlying132 hi hz0 hz1 hz2 rfl (by decide) v ps.length _ hs (hown.alloc _) ⟨w.heap.size, 0, none⟩ 1 1 (pC e) hx (by cases e <;> rfl) hc (pC_oneCell e) (by unfold maxLen; omega) (by omega) (by simp; omega) fun v' w' h1 h2 _ => h v' w' ?_ ?_
  · rw [List.length_append, List.flatMap_append]
    simpa using h1
  · exact (((Below.refl base w).alloc hbase _).grown h2 (by simp; omega) (fun b hb => (hown.lt b hb).1))

/-- The element that a letter is by itself. -/
def unE (c : List UInt8) : El := if c = [37] then .any else if c = [95] then .one else .lit c

theorem unescaped_any (c : List UInt8) (w : World) :
    Calls Tryz.prog 122 #[sv c] w fun e w' => e = .returned (.agg (pC (unE c)).toArray) ∧ Ext w w' := by
  unfold unE sv
  by_cases h37 : c = [37]
  · subst h37
    go_enter Tryz.func122, Tryz.ntmps122
    go_wp2_with fail
    refine bodyPost_ret (results_cell_row (P := Tryz.prog) (fn := Tryz.f122) rfl _ _ w.heap.size 139 _ (0, 0) _ rfl (heap_alloc_new _ _) Tryz.underlying139 rfl (by kernel_rfl)) rfl ?_
    exact ⟨rfl, (Below.refl _ w).alloc (Nat.le_refl _) _⟩
  · by_cases h95 : c = [95]
    · subst h95
      go_enter Tryz.func122, Tryz.ntmps122
      go_wp2_with fail
      refine bodyPost_ret (results_cell_row (P := Tryz.prog) (fn := Tryz.f122) rfl _ _ w.heap.size 139 _ (0, 0) _ rfl (heap_alloc_new _ _) Tryz.underlying139 rfl (by kernel_rfl)) rfl ?_
      exact ⟨rfl, (Below.refl _ w).alloc (Nat.le_refl _) _⟩
    · have q37 : (c == [37]) = false := beq_eq_false_iff_ne.2 h37
      have q95 : (c == [95]) = false := beq_eq_false_iff_ne.2 h95
      rw [if_neg h37, if_neg h95]
      clear h37 h95
      go_enter Tryz.func122, Tryz.ntmps122
      go_wp2_with fail
      refine bodyPost_ret (results_cell_row (P := Tryz.prog) (fn := Tryz.f122) rfl _ _ w.heap.size 139 _ (0, 0) _ rfl (heap_alloc_new _ _) Tryz.underlying139 rfl (by kernel_rfl)) rfl ?_
      exact ⟨rfl, (Below.refl _ w).alloc (Nat.le_refl _) _⟩

/-- A call that tells a pattern's elements, or why it is none. -/
def PParts (w : World) (l : List UInt8) (e : Ending) (w' : World) : Prop :=
  ((∃ ps v, elsOf l = some ps ∧ e = .returned (.tuple #[v, .int .i64 0]) ∧ w'.ownsRow w.heap.size 139 2 v ps.length (ps.flatMap pC)) ∨
   (elsOf l = none ∧ e = .returned (.tuple #[.slice none 0 0, .int .i64 30]))) ∧ Ext w w'

theorem els_un (c : List UInt8) (t : List (List UInt8)) (h : c ≠ [92]) : els (c :: t) = (els t).map (unE c :: ·) := by
  unfold unE
  rw [els.eq_def]
  simp only
  rw [if_neg h]
  by_cases h37 : c = [37]
  · rw [if_pos h37, if_pos h37]
  · rw [if_neg h37, if_neg h37]
    by_cases h95 : c = [95]
    · rw [if_pos h95, if_pos h95]
    · rw [if_neg h95, if_neg h95]

set_option maxRecDepth 100000 in
set_option maxHeartbeats 1000000 in
theorem elements_any (l : List UInt8) (w : World) (hT : Tabs w) (hl : l.length ≤ 5000) :
    Calls Tryz.prog 106 #[sv l] w (PParts w l) := by
  have HL := Lib.hid hl
  have HLT := Lib.hid (Letters_any l w hT hl)
  have HLL := Lib.hid (lets_length l)
  obtain ⟨ls, hls⟩ : ∃ ls, ls = lets l := ⟨_, rfl⟩
  have HLS := Lib.hid hls
  rw [← hls] at HLT HLL
  clear hT hl hls
  unfold sv at HLT ⊢
  go_enter Tryz.func106, Tryz.ntmps106
  go_wp2_with fail
  refine HLT.out.mono ?_
  rintro e w1 ⟨lv, rfl, ho1, hb1⟩
  rw [List.length_map] at ho1
  have HO1 := Lib.hid ho1
  have HB1 := Lib.hid hb1
  obtain ⟨ao, cp, rfl, hc1, hc2, hca⟩ := RdV.cellsAt (RdV.of_owns ho1)
  rw [List.length_map] at hc1
  simp only [List.length_map] at *
  unfold maxLen at hc2
  have HCA := Lib.hid hca
  clear ho1 hb1 hca
  generalize hN : ls.length = N at *
  have HN := Lib.hid hN
  clear hN
  go_wp2_with fail
  go_loopw [4, 5, 11] (fun v es i wr => ∃ (j : Nat) (ps : List El) (b : Bool), j ≤ N ∧ i = .int .i64 j ∧ es = .bool b ∧ els ls = (els (if b = true then [92] :: ls.drop j else ls.drop j)).map (ps ++ ·) ∧ ps.length ≤ j ∧ wr.ownsRow w1.heap.size 139 2 v ps.length (ps.flatMap pC) ∧ Below w1.heap.size w1 wr) (fun _ _ i _ => N - (intOf i).toNat)
  case atStart => exact ⟨0, [], false, Nat.zero_le _, rfl, rfl, by simp, Nat.le_refl _, World.ownsRow_nil _ _ _ _, Below.refl _ _⟩
  case round =>
    obtain ⟨j, ps, b, hj, rfl, rfl, hels, hpl, hown, hbel⟩ := hrel
    have HELS := Lib.hid hels
    have HOWN := Lib.hid hown
    have HBEL := Lib.hid hbel
    have hsz := hbel.size
    clear hels hown hbel
    by_cases hlt : j < N
    · have hjl : j < ls.length := by have := HN.out; omega
      obtain ⟨x, rfl, hc⟩ := HCA.out j (sv ls[j]) (by rw [List.getElem?_map, List.getElem?_eq_getElem hjl]; rfl)
      obtain ⟨g, rfl, _, hg⟩ := own_addr HO1.out
      rw [add_at, Nat.zero_add] at hc
      have hgr : g < wr.heap.size := by omega
      have hcell : wr.cell? ⟨g, j, none⟩ = some (sv ls[j]) := by rw [HBEL.out.cell (lt_of_cell hc)]; exact hc
      have HDR := Lib.hid (List.drop_eq_getElem_cons hjl)
      generalize ls[j] = c at hcell HDR
      clear hc
      have hp5 : ps.length ≤ 5000 := by have := HLL.out; have := HL.out; omega
      cases b with
      | true =>
        have HE := Lib.hid (show els ls = (els (ls.drop (j + 1))).map ((ps ++ [.lit c]) ++ ·) by
          rw [HELS.out, if_pos rfl, HDR.out, els_back, Option.map_map]; congr 1; funext q; simp)
        unfold sv at hcell
        go_wp2_with (at_builtin; go_loud (refine wpList_append_pC (w := wr) rfl (.tmp 22) (.tmp 25) rfl w1.heap.size _ ps (.lit c) rfl HOWN.out rfl hp5 hsz ?_); intro v3 w3 hown3 hb3; have HO3 := Lib.hid hown3; have HB3 := Lib.hid hb3; clear hown3 hb3)
        go_roundw
        case rel => exact ⟨j + 1, ps ++ [.lit c], false, by omega, by go_num, rfl, by rw [if_neg (by decide)]; exact HE.out, by simp; omega, HO3.out, HBEL.out.trans HB3.out⟩
        case measure => simp [intOf]; omega
      | false =>
        by_cases h92 : c = [92]
        · subst h92
          unfold sv at hcell
          go_wp2_with fail
          go_roundw
          case rel => exact ⟨j + 1, ps, true, by omega, by go_num, rfl, by rw [HELS.out, if_neg (by decide), if_pos rfl, HDR.out], by omega, HOWN.out, HBEL.out⟩
          case measure => simp [intOf]; omega
        · have HE := Lib.hid (show els ls = (els (ls.drop (j + 1))).map ((ps ++ [unE c]) ++ ·) by
            rw [HELS.out, if_neg (by decide), HDR.out, els_un _ _ h92, Option.map_map]; congr 1; funext q; simp)
          have q92 : (c == [92]) = false := beq_eq_false_iff_ne.2 h92
          have HU := Lib.hid (unescaped_any c)
          unfold sv at hcell HU
          clear h92
          go_wp2_with fail
          refine (HU.out wr).mono ?_
          rintro e w2 ⟨rfl, hb2⟩
          have HB2 := Lib.hid hb2
          have hsz2 : w1.heap.size ≤ w2.heap.size := Nat.le_trans hsz hb2.size
          have HO2 := Lib.hid (show w2.ownsRow w1.heap.size 139 2 _ ps.length (ps.flatMap pC) from HOWN.out.kept (row := none) ⟨hb2.os, hb2.tape, hb2.output, hb2.size, fun k hk _ => hb2.block k hk⟩ (by cases Value.ownBlock _ <;> simp))
          clear hb2
          generalize unE c = el at HE
          obtain ⟨z1, z2, hz⟩ : ∃ z1 z2, pC el = [z1, z2] := by cases el <;> exact ⟨_, _, rfl⟩
          have HZ := Lib.hid hz
          rw [hz]
          clear hz
          go_wp2_with (at_builtin; go_loud (rw [show #[z1, z2] = (pC el).toArray by rw [HZ.out]]; refine wpList_append_pC (w := w2) rfl (.tmp 15) (.tmp 18) rfl w1.heap.size _ ps el rfl HO2.out rfl hp5 hsz2 ?_); intro v3 w3 hown3 hb3; have HO3 := Lib.hid hown3; have HB3 := Lib.hid hb3; clear hown3 hb3)
          go_roundw
          case rel => exact ⟨j + 1, ps ++ [el], false, by omega, by go_num, rfl, by rw [if_neg (by decide)]; exact HE.out, by simp; omega, HO3.out, (HBEL.out.trans (HB2.out.mono hsz)).trans HB3.out⟩
          case measure => simp [intOf]; omega
    · have hjN : j = N := by omega
      subst hjN
      have HDN := Lib.hid (show ls.drop j = [] from List.drop_eq_nil_of_le (by have := HN.out; omega))
      cases b with
      | true =>
        have HSO := Lib.hid (show els ls = none by rw [HELS.out, if_pos rfl, HDN.out]; rfl)
        go_wp2_with fail
        go_ret2
        exact ⟨.inr ⟨by unfold elsOf; rw [← HLS.out]; exact HSO.out, rfl⟩, HB1.out.trans (HBEL.out.mono HB1.out.size)⟩
      | false =>
        have HSO := Lib.hid (show els ls = some ps by rw [HELS.out, if_neg (by decide), HDN.out]; simp [els])
        go_wp2_with fail
        go_ret2
        exact ⟨.inl ⟨ps, _, by unfold elsOf; rw [← HLS.out]; exact HSO.out, rfl, owns_baseK HOWN.out HB1.out.size⟩, HB1.out.trans (HBEL.out.mono HB1.out.size)⟩

end Go.Proofs.YtfnmcdjfdhdlmaaGreatDoor

/-
  The program's Check.
-/
namespace Go.Proofs.YtfnmcdjfdhdlmaaGreatDoor
open Go.RowKit

set_option maxRecDepth 100000 in
set_option maxHeartbeats 400000 in
theorem Check_any (l : List UInt8) (w : World) (hT : Tabs w) (hl : l.length ≤ 5000) :
    Calls Tryz.prog 84 #[sv l] w fun e w' => e = .returned (.int .i64 (errN l)) ∧ Ext w w' := by
  have HP := Lib.hid (elements_any l w hT hl)
  generalize hE : errN l = E
  have HE := Lib.hid hE
  clear hT hl hE
  unfold sv at HP ⊢
  go_enter Tryz.func84, Tryz.ntmps84
  go_wp2_with fail
  refine HP.out.mono ?_
  rintro e w1 ⟨⟨ps, v, h, rfl, _⟩ | ⟨h, rfl⟩, hb⟩
  · have H := Lib.hid h
    have HB := Lib.hid hb
    clear h hb
    go_wp2_with fail
    go_ret
    exact ⟨by rw [← HE.out, errN_some H.out]; rfl, HB.out⟩
  · have H := Lib.hid h
    have HB := Lib.hid hb
    clear h hb
    go_wp2_with fail
    go_ret
    exact ⟨by rw [← HE.out, errN_none H.out]; rfl, HB.out⟩

end Go.Proofs.YtfnmcdjfdhdlmaaGreatDoor
