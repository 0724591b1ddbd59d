/-
  What was put is got; what acts leave as it was; a page of which bits are others. No program.
-/
import Derived.Test.YthelgjoobckbaaaPagesPlays
import Derived.Test.YthelgjoobckbaaaCrcTurn
namespace Go.Proofs.Ythelgjoobckbaaa
open Go.RowKit Go.BigFrame

/-- These pages hold these bytes. -/
def Holds (s : St) : List Nat → List UInt8 → Prop
  | [], x => x = []
  | id :: t, x => x ≠ [] ∧ s[id]? = some (some (layP id (x.take 56))) ∧ Holds s t (x.drop 56)

theorem fill_fill (b : List UInt8) (h : b.length ≤ 56) : fill (fill b) = fill b := fill_full _ (fill_length b h)
theorem layP_fill (id : Nat) (b : List UInt8) (h : b.length ≤ 56) : layP id (fill b) = layP id b := by
  unfold layP
  rw [fill_fill b h]
theorem pageS_at {s : St} {id : Nat} {o : Option (List UInt8)} (h : s[id]? = some o) : pageS s (id : Int) = o := by
  unfold pageS
  rw [if_pos (by omega), Int.toNat_natCast, h]
  rfl
theorem read_laid {s : St} {id : Nat} {b : List UInt8} (h : s[id]? = some (some (layP id b))) (hb : b.length ≤ 56) : readS s (id : Int) = (fill b, 0) := by
  unfold readS
  rw [pageS_at h]
  simp only
  rw [Int.toNat_natCast, layP_take id b hb, layP_fill id b hb, if_pos rfl]
theorem needS_nil : needS ((0 : Nat) : Int) = 0 := rfl
theorem needS_step {n : Nat} (h : 0 < n) : needS (n : Int) = needS ((n - 56 : Nat) : Int) + 1 := by
  unfold needS
  by_cases h56 : n ≤ 56
  · rw [if_neg (by omega), if_pos (by omega)]
    omega
  · rw [if_neg (by omega), if_neg (by omega)]
    omega
theorem Holds.count {s : St} : ∀ {ids : List Nat} {x : List UInt8}, Holds s ids x → (ids.length : Int) = needS (x.length : Int)
  | [], x, h => by
    have h1 : x = [] := h
    rw [h1]; rfl
  | id :: t, x, h => by
    obtain ⟨h1, _, h3⟩ := h
    have ih := h3.count
    rw [List.length_drop] at ih
    rw [needS_step (List.length_pos_iff.2 h1), ← ih]
    simp
theorem Holds.reads {s : St} : ∀ {ids : List Nat} {x : List UInt8}, Holds s ids x → ∃ k, readsS s (ids.map fun (i : Nat) => (i : Int)) = (x ++ zeros k, 0)
  | [], x, h => ⟨0, by have h1 : x = [] := h; rw [h1]; rfl⟩
  | id :: t, x, h => by
    obtain ⟨h1, h2, h3⟩ := h
    obtain ⟨k, hk⟩ := h3.reads
    have hr := read_laid h2 (by rw [List.length_take]; omega)
    by_cases hx : x.length ≤ 56
    · have hd : x.drop 56 = [] := List.drop_of_length_le hx
      refine ⟨56 - x.length + k, ?_⟩
      simp only [List.map_cons]
      unfold readsS
      rw [hr, hk, hd]
      simp only [if_pos]
      rw [List.take_of_length_le hx]
      unfold fill zeros
      simp [List.replicate_append_replicate]
    · refine ⟨k, ?_⟩
      simp only [List.map_cons]
      unfold readsS
      rw [hr, hk]
      simp only [if_pos]
      rw [fill_full _ (by rw [List.length_take]; omega), ← List.append_assoc, List.take_append_drop]
/-- What pages hold is got. -/
theorem Holds.got {s : St} {ids : List Nat} {x : List UInt8} (h : Holds s ids x) : getS s (ids.map fun (i : Nat) => (i : Int)) (x.length : Int) = (x, 0) := by
  obtain ⟨k, hk⟩ := h.reads
  have hc := h.count
  unfold getS
  rw [if_neg (by rintro (h | h); omega; exact h (by rw [List.length_map]; exact hc)), hk]
  simp only
  rw [if_neg (by decide), Int.toNat_natCast, if_pos]
  · simp
  · simp [zeros]

theorem Holds.keep {s s' : St} : ∀ {ids : List Nat} {x : List UInt8}, Holds s ids x → (∀ i ∈ ids, ∀ q, s[i]? = some (some q) → s'[i]? = some (some q)) → Holds s' ids x
  | [], _, h, _ => h
  | _ :: _, _, ⟨h1, h2, h3⟩, hk => ⟨h1, hk _ (.head _) _ h2, h3.keep (fun i hi => hk i (.tail _ hi))⟩
theorem Holds.page {s : St} : ∀ {ids : List Nat} {x : List UInt8}, Holds s ids x → ∀ i ∈ ids, ∃ c, c.length ≤ 56 ∧ s[i]? = some (some (layP i c))
  | id :: t, x, ⟨_, h2, h3⟩, i, hi => by
    rcases List.mem_cons.1 hi with rfl | hi
    · exact ⟨_, by rw [List.length_take]; omega, h2⟩
    · exact h3.page i hi

theorem writesS_other : ∀ (ids : List Nat) (b : List UInt8) (s : St) (i : Nat), i ∉ ids → (writesS ids b s)[i]? = s[i]?
  | [], _, _, _, _ => rfl
  | id :: t, b, s, i, h => by
    unfold writesS
    rw [writesS_other t _ _ i (fun hh => h (.tail _ hh)), List.getElem?_set_ne (fun e => h (by rw [e]; exact .head _))]
theorem writesS_holds : ∀ (ids : List Nat) (x : List UInt8) (s : St), ids.Nodup → (∀ i ∈ ids, i < s.length) → (ids.length : Int) = needS (x.length : Int) → Holds (writesS ids x s) ids x
  | [], x, s, _, _, hn => by
    show x = []
    cases x with
    | nil => rfl
    | cons a t =>
      rw [needS_step (by simp)] at hn
      have : 0 ≤ needS (((a :: t).length - 56 : Nat) : Int) := by unfold needS; split <;> omega
      rw [List.length_nil] at hn
      omega
  | id :: t, x, s, hd, hl, hn => by
    have hx : x ≠ [] := by
      rintro rfl
      simp only [List.length_nil, List.length_cons] at hn
      rw [needS_nil] at hn
      omega
    have hd' := List.nodup_cons.1 hd
    rw [needS_step (List.length_pos_iff.2 hx)] at hn
    refine ⟨hx, ?_, ?_⟩
    · unfold writesS
      rw [writesS_other t _ _ id hd'.1, List.getElem?_set_self (hl id (.head _))]
    · unfold writesS
      exact writesS_holds t (x.drop 56) _ hd'.2 (fun i hi => by rw [List.length_set]; exact hl i (.tail _ hi)) (by rw [List.length_drop]; simp only [List.length_cons] at hn; omega)
theorem takeS_nodup : ∀ (n i : Nat) (s : St), (takeS i n s).1.Nodup
  | 0, i, s => by rw [takeS_zero]; exact List.nodup_nil
  | n + 1, i, [] => by rw [takeS_nil]; exact List.nodup_nil
  | n + 1, i, none :: t => by
    simp only [takeS]
    refine List.nodup_cons.2 ⟨fun h => ?_, takeS_nodup n (i + 1) t⟩
    have := (takeS_lt n (i + 1) t i h).1
    omega
  | n + 1, i, some q :: t => by
    simp only [takeS]
    exact takeS_nodup (n + 1) (i + 1) t
theorem takeS_free : ∀ (n i : Nat) (s : St), ∀ x ∈ (takeS i n s).1, s[x - i]? = some none
  | 0, i, s, x, h => by rw [takeS_zero] at h; cases h
  | n + 1, i, [], x, h => by rw [takeS_nil] at h; cases h
  | n + 1, i, none :: t, x, h => by
    simp only [takeS, List.mem_cons] at h
    rcases h with rfl | h
    · simp
    · have h1 := takeS_free n (i + 1) t x h
      have h2 := (takeS_lt n (i + 1) t x h).1
      rw [show x - i = (x - (i + 1)) + 1 by omega]
      exact h1
  | n + 1, i, some q :: t, x, h => by
    simp only [takeS] at h
    have h1 := takeS_free (n + 1) (i + 1) t x h
    have h2 := (takeS_lt (n + 1) (i + 1) t x h).1
    rw [show x - i = (x - (i + 1)) + 1 by omega]
    exact h1
theorem setsS_other : ∀ (ids : List Nat) (s : St) (i : Nat), i ∉ ids → (setsS ids s)[i]? = s[i]?
  | [], _, _, _ => rfl
  | id :: t, s, i, h => by
    show (setsS t (s.set id (some (layP id []))))[i]? = _
    rw [setsS_other t _ i (fun hh => h (.tail _ hh)), List.getElem?_set_ne (fun e => h (by rw [e]; exact .head _))]
theorem allocS_keeps {s : St} {n : Int} {i : Nat} {q : List UInt8} (h : s[i]? = some (some q)) : (allocS s n).2[i]? = some (some q) := by
  unfold allocS
  split
  · exact h
  · split
    · exact h
    · rw [takeS_all, setsS_other _ _ _ (fun hh => ?_)]
      · exact h
      · have := takeS_free _ _ _ i hh
        rw [Nat.sub_zero, h] at this
        cases this
theorem allocS_free {s : St} {n : Int} : ∀ x ∈ (allocS s n).1.1, s[x]? = some none := fun x hx => by
  unfold allocS at hx
  split at hx
  · cases hx
  · split at hx
    · cases hx
    · have := takeS_free _ _ _ x hx
      rwa [Nat.sub_zero] at this
theorem putS_keeps {s : St} {b : List UInt8} {i : Nat} {q : List UInt8} (h : s[i]? = some (some q)) : (putS s b).2[i]? = some (some q) := by
  unfold putS
  split
  · simp only
    rw [writesS_other _ _ _ _ (fun hh => ?_)]
    · exact allocS_keeps h
    · have := allocS_free i hh
      rw [h] at this
      cases this
  · exact h
theorem set_keeps {s : St} {id : Int} {i : Nat} {q : List UInt8} {o : Option (List UInt8)} (h : s[i]? = some (some q)) (hid : 0 ≤ id) (hne : id ≠ i) : (setS s id o)[i]? = some (some q) := by
  unfold setS
  rw [List.getElem?_set_ne (by omega)]
  exact h
theorem freeS_keeps {s : St} {id : Int} {i : Nat} {q : List UInt8} (h : s[i]? = some (some q)) (hne : id ≠ i) : (freeS s id).2[i]? = some (some q) := by
  unfold freeS
  cases hp : pageS s id with
  | none => exact h
  | some p => exact set_keeps h (pageS_lt hp).1 hne
theorem dropS_keeps : ∀ (ids : List Int) (s : St) {i : Nat} {q : List UInt8}, s[i]? = some (some q) → (∀ j ∈ ids, j ≠ (i : Int)) → (dropS s ids)[i]? = some (some q)
  | [], _, _, _, h, _ => h
  | id :: t, s, _, _, h, hj => by
    unfold dropS
    exact dropS_keeps t _ (freeS_keeps h (hj id (.head _))) (fun j hj' => hj j (.tail _ hj'))
/-- An act on others leaves a page as it is. -/
theorem actS_keeps {s : St} {a : Act5} {i : Nat} {q : List UInt8} (h : s[i]? = some (some q)) (h1 : 0 < a.k % 7 → a.k % 7 < 4 → a.at' ≠ (i : Int)) (h2 : ∀ j ∈ a.l, j ≠ (i : Int)) : (actS s a)[i]? = some (some q) := by
  unfold actS
  split
  · exact allocS_keeps h
  split
  · exact freeS_keeps h (h1 (by omega) (by omega))
  split
  · unfold writeS
    cases hp : pageS s a.at' with
    | none => exact h
    | some p =>
      simp only
      split
      · exact h
      · exact set_keeps h (pageS_lt hp).1 (h1 (by omega) (by omega))
  split
  · unfold flipS
    cases hp : pageS s a.at' with
    | none => exact h
    | some p =>
      simp only
      split
      · exact set_keeps h (pageS_lt hp).1 (h1 (by omega) (by omega))
      · exact h
  split
  · exact putS_keeps h
  split
  · exact h
  · exact dropS_keeps _ _ h h2

/-- What was put is held by its pages. -/
theorem putS_holds {s : St} {x : List UInt8} (h : (putS s x).1.2 = 0) : Holds (putS s x).2 (putS s x).1.1 x ∧ (putS s x).1.1.Nodup ∧ (∀ i ∈ (putS s x).1.1, s[i]? = some none) ∧ ((putS s x).1.1.length : Int) = needS (x.length : Int) := by
  have hs : (allocS s (needS x.length)).1.2 = 0 := by
    unfold putS at h
    by_cases he : (allocS s (needS x.length)).1.2 = 0
    · exact he
    · rw [if_neg he] at h
      exact h
  have hfit : ¬ needS (x.length : Int) < 0 ∧ ¬ (s.length : Int) - usedS s < needS (x.length : Int) := by
    unfold allocS at hs
    split at hs
    · cases hs
    · split at hs
      · cases hs
      · exact ⟨by assumption, by assumption⟩
  have hput : putS s x = (((allocS s (needS x.length)).1.1, 0), writesS (allocS s (needS x.length)).1.1 x (allocS s (needS x.length)).2) := by unfold putS; rw [if_pos hs]
  have hal := allocS_fits (s := s) (needS (x.length : Int)) hfit.1 hfit.2
  have hus := (List.countP_le_length : usedS s ≤ s.length)
  have hn : 0 ≤ needS (x.length : Int) := by unfold needS; split <;> omega
  have hcnt := takeS_count (needS (x.length : Int)).toNat 0 s (by omega)
  rw [hput, hal]
  simp only
  refine ⟨writesS_holds _ x _ (takeS_nodup _ _ _) (fun i hi => ?_) (by rw [hcnt]; omega), takeS_nodup _ _ _, fun i hi => ?_, by rw [hcnt]; omega⟩
  · rw [takeS_length]
    have := (takeS_lt _ _ _ i hi).2
    omega
  · have := takeS_free _ _ _ i hi
    rwa [Nat.sub_zero] at this

/-- A page of which bits are others is told. -/
theorem read_turned {s : St} {id : Nat} {c p : List UInt8} {a which : Nat} (h : s[id]? = some (some p)) (hc : c.length ≤ 56) (hl : p.length = 64) (_ha : a ≤ 512)
    (hb : ∀ k, k < 512 → (bitsOf p)[k]? = (bitsOf (layP id c))[k]?.map fun b => b ^^ (decide (a ≤ k ∧ k < a + 32) && which.testBit (k - a)))
    (ht : ∃ i, i < 32 ∧ a + i < 512 ∧ which.testBit i = true) : readS s (id : Int) = ([], 6) := by
  have hx := layP_length id c hc
  have hz : sumOf (layP id c) = 0#32 := sealed_zero _
  have hs := burst_sum (layP id c) p a which (by omega) (by omega) (fun k hk => hb k (by omega)) hz
  unfold readS
  rw [pageS_at h]
  simp only
  rw [Int.toNat_natCast, if_neg]
  intro he
  have h0 : sumOf p = 0#32 := by
    rw [← he]
    exact sealed_zero _
  obtain ⟨i, h1, h2, h3⟩ := ht
  have := hs.1 h0 i h1 (by omega)
  rw [h3] at this
  cases this
theorem reads_bad {s : St} : ∀ (ids : List Int), (∀ i ∈ ids, (readS s i).2 = 0 ∨ (readS s i).2 = 6) → (∃ i ∈ ids, (readS s i).2 = 6) → readsS s ids = ([], 6)
  | [], _, h => by obtain ⟨i, hi, _⟩ := h; cases hi
  | id :: t, h1, h2 => by
    unfold readsS
    rcases h1 id (.head _) with h | h
    · rw [if_pos h]
      have ih := reads_bad t (fun i hi => h1 i (.tail _ hi)) (by
        obtain ⟨i, hi, h6⟩ := h2
        rcases List.mem_cons.1 hi with rfl | hi
        · rw [h] at h6; cases h6
        · exact ⟨i, hi, h6⟩)
      rw [ih]
      rfl
    · rw [if_neg (by rw [h]; decide), h]
theorem get_bad {s : St} {ids : List Int} {n : Nat} (hn : (ids.length : Int) = needS (n : Int)) (h1 : ∀ i ∈ ids, (readS s i).2 = 0 ∨ (readS s i).2 = 6) (h2 : ∃ i ∈ ids, (readS s i).2 = 6) : getS s ids (n : Int) = ([], 6) := by
  unfold getS
  rw [if_neg (by rintro (h | h); omega; exact h hn), reads_bad ids h1 h2]
  rfl

end Go.Proofs.Ythelgjoobckbaaa
