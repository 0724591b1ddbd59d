/-
  Words: over lists of bytes. No program.
-/
import Derived.Test.YtcaidgdnneomaaaText
import Derived.Test.YtcaidgdnneomaaaTk
namespace Go.Proofs.Ytcaidgdnneomaaa

abbrev T8 := List UInt8

/-- The words rise. -/
def Rising (ws : List T8) : Prop := ws.Pairwise (· < ·)
instance (ws : List T8) : Decidable (Rising ws) := by unfold Rising; exact inferInstance
/-- Words that may be. -/
def goodW (ws : List T8) : Prop := ws.length ≤ 200 ∧ (∀ t ∈ ws, t.length ≤ 1024) ∧ Rising ws
instance (ws : List T8) : Decidable (goodW ws) := by unfold goodW; exact inferInstance
def rightW (ws : List T8) : Bool := decide (goodW ws)

/-- Where a text stands. -/
def placeN : List T8 → T8 → Nat
  | [], _ => 0
  | t :: ws, s => if t = s then 0 else 1 + placeN ws s
def placeS (ws : List T8) (s : T8) : Int := if s ∈ ws then (placeN ws s : Int) else -1
def findS (ws : List T8) (s : T8) : Int × Bool := if rightW ws = true ∧ s ∈ ws then (placeS ws s, true) else (0, false)
def lessN (ws : List T8) (s : T8) : Nat := (ws.filter fun t => decide (t < s)).length
def behindN (ws : List T8) (s : T8) : Nat := (ws.filter fun t => decide (t < s) || s.isPrefixOf t).length
def fromS (ws : List T8) (s : T8) : Int := if rightW ws = true then (lessN ws s : Int) else 0
def behindS (ws : List T8) (s : T8) : Int := if rightW ws = true then (behindN ws s : Int) else 0

/-- A text among words that rise. -/
def insW : List T8 → T8 → List T8
  | [], s => [s]
  | t :: ws, s => if t < s then t :: insW ws s else s :: t :: ws
def addW (ws : List T8) (s : T8) : List T8 := if s ∈ ws then ws else insW ws s
def wordsOf (l : List T8) : List T8 := l.foldl addW []
def okTexts (l : List T8) : Prop := l.length ≤ 4096 ∧ (∀ t ∈ l, t.length ≤ 1024) ∧ (wordsOf l).length ≤ 200
instance (l : List T8) : Decidable (okTexts l) := by unfold okTexts; exact inferInstance
def ofS10 (l : List T8) : List T8 × List Int × Int := if okTexts l then (wordsOf l, l.map (placeS (wordsOf l)), 0) else ([], [], 3)

/-- With how many bytes both begin. -/
def commonN : T8 → T8 → Nat
  | a :: x, b :: y => if a = b then 1 + commonN x y else 0
  | _, _ => 0
def encT (t : T8) : T8 := enc t.length ++ t
def encW : T8 → List T8 → T8
  | _, [] => []
  | last, t :: ws => enc (commonN last t) ++ (encT (t.drop (commonN last t)) ++ encW t ws)
def putW (ws : List T8) : T8 := enc ws.length ++ encW [] ws
def putS10 (ws : List T8) : T8 × Int := if rightW ws = true then (putW ws, 0) else ([], 1)
def turnS (a b : List T8) : List Int × Int := if rightW a = true ∧ rightW b = true then (a.map (placeS b), 0) else ([], 1)

theorem rightW_iff {ws : List T8} : rightW ws = true ↔ goodW ws := decide_eq_true_iff

/-! ### Places -/

theorem placeN_lt {ws : List T8} {s : T8} (h : s ∈ ws) : placeN ws s < ws.length := by
  induction ws with
  | nil => cases h
  | cons t ws ih =>
    unfold placeN
    split
    · simp
    · rename_i hne
      rcases List.mem_cons.1 h with h | h
      · exact absurd h.symm hne
      · have := ih h
        rw [List.length_cons]
        omega
theorem placeN_get {ws : List T8} {s : T8} (h : s ∈ ws) : ws[placeN ws s]? = some s := by
  induction ws with
  | nil => cases h
  | cons t ws ih =>
    unfold placeN
    split
    · rename_i e
      rw [e]
      rfl
    · rename_i hne
      rcases List.mem_cons.1 h with h | h
      · exact absurd h.symm hne
      · rw [Nat.add_comm, List.getElem?_cons_succ]
        exact ih h
/-- The first of the places where it stands. -/
theorem placeN_first {ws : List T8} {s : T8} {j : Nat} (hj : j < ws.length) (hs : ws[j] = s) (hb : ∀ i, (hi : i < ws.length) → i < j → ws[i] ≠ s) : placeN ws s = j := by
  induction ws generalizing j with
  | nil => simp at hj
  | cons t ws ih =>
    cases j with
    | zero =>
      unfold placeN
      rw [if_pos (by simpa using hs)]
    | succ j =>
      have h0 := hb 0 (by simp) (by omega)
      unfold placeN
      rw [if_neg (by simpa using h0), ih (by simpa using hj) (by simpa using hs) (fun i hi hij => by
        have := hb (i + 1) (by simpa using hi) (by omega)
        simpa using this)]
      omega
theorem placeS_found {ws : List T8} {s : T8} {j : Nat} (hj : j < ws.length) (hs : ws[j] = s) (hb : ∀ i, (hi : i < ws.length) → i < j → ws[i] ≠ s) : placeS ws s = j := by
  unfold placeS
  rw [if_pos (by rw [← hs]; exact List.getElem_mem hj), placeN_first hj hs hb]
theorem placeS_none {ws : List T8} {s : T8} (h : ∀ i, (hi : i < ws.length) → ws[i] ≠ s) : placeS ws s = -1 := by
  unfold placeS
  rw [if_neg]
  intro hm
  obtain ⟨i, hi, e⟩ := List.mem_iff_getElem.1 hm
  exact h i hi e
theorem placeS_neg {ws : List T8} {s : T8} : placeS ws s < 0 ↔ s ∉ ws := by
  unfold placeS
  by_cases h : s ∈ ws
  · rw [if_pos h]
    constructor
    · intro h'; omega
    · intro h'; exact absurd h h'
  · rw [if_neg h]
    exact ⟨fun _ => h, fun _ => by decide⟩
theorem placeS_bounds (ws : List T8) (s : T8) (h : ws.length ≤ 1000000) : -1 ≤ placeS ws s ∧ placeS ws s ≤ 1000000 := by
  unfold placeS
  split
  · rename_i hm
    have := placeN_lt hm
    omega
  · omega

/-! ### Right, by places -/

def okW (ws : List T8) (j : Nat) (hj : j < ws.length) : Prop := ws[j].length ≤ 1024 ∧ (0 < j → (ws[j - 1]'(by omega)) < ws[j])
theorem okW_all {ws : List T8} (h1 : ∀ t ∈ ws, t.length ≤ 1024) (h2 : Rising ws) (j : Nat) (hj : j < ws.length) : okW ws j hj := by
  refine ⟨h1 _ (List.getElem_mem hj), fun h0 => ?_⟩
  exact (List.pairwise_iff_getElem.1 h2) (j - 1) j (by omega) hj (by omega)
theorem good_of_ok {ws : List T8} (hl : ws.length ≤ 200) (h : ∀ j, (hj : j < ws.length) → okW ws j hj) : goodW ws := by
  refine ⟨hl, fun t ht => ?_, ?_⟩
  · obtain ⟨i, hi, rfl⟩ := List.mem_iff_getElem.1 ht
    exact (h i hi).1
  · unfold Rising
    rw [List.pairwise_iff_getElem]
    intro i j hi hj hij
    have key : ∀ d, (hd : i + d + 1 < ws.length) → ws[i] < ws[i + d + 1] := fun d => by
      induction d with
      | zero =>
        intro hd
        exact (h (i + 1) (by omega)).2 (by omega)
      | succ d ih =>
        intro hd
        have e := (h (i + (d + 1) + 1) hd).2 (by omega)
        exact tless_trans (ih (by omega)) e
    have := key (j - i - 1) (by omega)
    have e : i + (j - i - 1) + 1 = j := by omega
    simpa only [e] using this
theorem rightW_bad {ws : List T8} {j : Nat} {hj : j < ws.length} (h : ¬ okW ws j hj) : rightW ws = false := by
  cases hb : rightW ws with
  | false => rfl
  | true =>
    obtain ⟨_, h1, h2⟩ := rightW_iff.1 hb
    exact absurd (okW_all h1 h2 j hj) h
theorem rightW_len {ws : List T8} (h : ∀ j, (hj : j < ws.length) → okW ws j hj) : rightW ws = decide (ws.length ≤ 200) := by
  rw [Bool.eq_iff_iff, rightW_iff, decide_eq_true_iff]
  exact ⟨fun h => h.1, fun hl => good_of_ok hl h⟩

/-! ### Words of texts -/

theorem insW_at {W : List T8} {s : T8} {k : Nat} (hk : k ≤ W.length) (h1 : ∀ i, (hi : i < W.length) → i < k → W[i] < s) (h2 : ∀ (hi : k < W.length), ¬ W[k] < s) : insW W s = W.take k ++ (s :: W.drop k) := by
  induction W generalizing k with
  | nil =>
    obtain rfl : k = 0 := by simpa using hk
    rfl
  | cons t W ih =>
    cases k with
    | zero =>
      have := h2 (by simp)
      unfold insW
      rw [if_neg (by simpa using this)]
      rfl
    | succ k =>
      have h0 := h1 0 (by simp) (by omega)
      unfold insW
      rw [if_pos (by simpa using h0), ih (by simpa using hk) (fun i hi hik => by
        have := h1 (i + 1) (by simpa using hi) (by omega)
        simpa using this) (fun hi => by
        have := h2 (by simpa using hi)
        simpa using this)]
      rfl
theorem mem_insW {W : List T8} {s x : T8} : x ∈ insW W s ↔ x = s ∨ x ∈ W := by
  induction W with
  | nil => simp [insW]
  | cons t W ih =>
    unfold insW
    split
    · rw [List.mem_cons, ih, List.mem_cons]
      constructor
      · rintro (h | h | h)
        · exact .inr (.inl h)
        · exact .inl h
        · exact .inr (.inr h)
      · rintro (h | h | h)
        · exact .inr (.inl h)
        · exact .inl h
        · exact .inr (.inr h)
    · simp
theorem length_insW (W : List T8) (s : T8) : (insW W s).length = W.length + 1 := by
  induction W with
  | nil => rfl
  | cons t W ih =>
    unfold insW
    split
    · rw [List.length_cons, ih, List.length_cons]
    · rfl
theorem rising_insW {W : List T8} {s : T8} (h : Rising W) (hs : s ∉ W) : Rising (insW W s) := by
  unfold Rising at *
  induction W with
  | nil => exact List.pairwise_singleton _ _
  | cons t W ih =>
    obtain ⟨h1, h2⟩ := List.pairwise_cons.1 h
    unfold insW
    by_cases hts : t < s
    · rw [if_pos hts]
      refine List.pairwise_cons.2 ⟨fun x hx => ?_, ih h2 (fun hm => hs (by simp [hm]))⟩
      rcases mem_insW.1 hx with rfl | hx
      · exact hts
      · exact h1 x hx
    · rw [if_neg hts]
      have hst : s < t := by
        rcases tless_three t s with h | h | h
        · exact absurd h hts
        · exact absurd (by rw [h]; simp) hs
        · exact h
      refine List.pairwise_cons.2 ⟨fun x hx => ?_, h⟩
      rcases List.mem_cons.1 hx with rfl | hx
      · exact hst
      · exact tless_trans hst (h1 x hx)
theorem addW_in {W : List T8} {s : T8} (h : s ∈ W) : addW W s = W := if_pos h
theorem addW_new {W : List T8} {s : T8} (h : s ∉ W) : addW W s = insW W s := if_neg h
theorem wordsOf_snoc (l : List T8) (s : T8) : wordsOf (l ++ [s]) = addW (wordsOf l) s := by
  unfold wordsOf
  rw [List.foldl_append]
  rfl
theorem addW_len (W : List T8) (s : T8) : W.length ≤ (addW W s).length := by
  by_cases h : s ∈ W
  · rw [addW_in h]; exact Nat.le_refl _
  · rw [addW_new h, length_insW]; omega
theorem words_grow (p q : List T8) : (wordsOf p).length ≤ (wordsOf (p ++ q)).length := by
  induction q generalizing p with
  | nil => rw [List.append_nil]; exact Nat.le_refl _
  | cons s q ih =>
    have h := ih (p ++ [s])
    rw [List.append_assoc] at h
    have h2 := addW_len (wordsOf p) s
    rw [← wordsOf_snoc] at h2
    exact Nat.le_trans h2 h
theorem words_take (l : List T8) (j : Nat) : (wordsOf (l.take j)).length ≤ (wordsOf l).length := by
  have := words_grow (l.take j) (l.drop j)
  rwa [List.take_append_drop] at this
theorem words_ok (l : List T8) : Rising (wordsOf l) ∧ ∀ x, x ∈ wordsOf l ↔ x ∈ l := by
  have key : ∀ n, ∀ l : List T8, l.length = n → Rising (wordsOf l) ∧ ∀ x, x ∈ wordsOf l ↔ x ∈ l := fun n => by
    induction n with
    | zero =>
      intro l hl
      obtain rfl := List.length_eq_zero_iff.1 hl
      exact ⟨List.Pairwise.nil, fun x => Iff.rfl⟩
    | succ n ih =>
      intro l hl
      rcases List.eq_nil_or_concat l with rfl | ⟨p, s, rfl⟩
      · simp at hl
      · rw [List.concat_eq_append] at hl ⊢
        obtain ⟨h1, h2⟩ := ih p (by simpa using hl)
        rw [wordsOf_snoc]
        by_cases hs : s ∈ wordsOf p
        · rw [addW_in hs]
          refine ⟨h1, fun x => ?_⟩
          rw [h2, List.mem_append, List.mem_singleton]
          constructor
          · exact .inl
          · rintro (h | rfl)
            · exact h
            · exact (h2 _).1 hs
        · rw [addW_new hs]
          refine ⟨rising_insW h1 hs, fun x => ?_⟩
          rw [mem_insW, h2, List.mem_append, List.mem_singleton]
          exact Or.comm
  exact key _ l rfl
theorem words_take_succ {l : List T8} {j : Nat} (hj : j < l.length) : wordsOf (l.take (j + 1)) = addW (wordsOf (l.take j)) l[j] := by
  rw [List.take_succ_eq_append_getElem hj, wordsOf_snoc]
theorem ofS10_no {l : List T8} (h : ¬ okTexts l) : ofS10 l = ([], [], 3) := if_neg h
theorem ofS10_ok {l : List T8} (h : okTexts l) : ofS10 l = (wordsOf l, l.map (placeS (wordsOf l)), 0) := if_pos h

end Go.Proofs.Ytcaidgdnneomaaa
