/-
  Texts as values, and what is said of patterns in the walks of layer 3: general words.
-/
import Derived.Test.YtmlaedhmgkcdpaaDoorSlices
import Derived.Test.YtmlaedhmgkcdpaaDoorFacts
import Derived.Test.YtmlaedhmgkcdpaaDoorRangeText
namespace Go.Proofs.YtmlaedhmgkcdpaaDoor
open Go.RowKit

/-- A text as a value. -/
def sv (l : List UInt8) : Value := .string ⟨l.toArray⟩
theorem sv_oneCell (ls : List (List UInt8)) : ∀ u ∈ ls.map sv, u.oneCell' = true := by
  intro u hu
  obtain ⟨c, _, rfl⟩ := List.mem_map.1 hu
  rfl

theorem cells_new (w : World) (xs : List Value) (t : TypeId) : ∀ j u, xs[j]? = some u → (w.alloc (.cells xs.toArray t)).cell? ((⟨w.heap.size, 0, none⟩ : Addr).add j) = some u := by
  intro j u hj
  rw [add_at, Nat.zero_add]
  unfold World.cell?
  rw [heap_alloc_new]
  simpa using hj

theorem extract_take (l : List UInt8) (k : Nat) (_h : k ≤ l.length) : (⟨l.toArray⟩ : ByteArray).extract 0 k = ⟨(l.take k).toArray⟩ := by
  apply ByteArray.ext
  simp [ByteArray.data_extract]
theorem extract_drop (l : List UInt8) (k : Nat) (_h : k ≤ l.length) : (⟨l.toArray⟩ : ByteArray).extract k l.length = ⟨(l.drop k).toArray⟩ := by
  apply ByteArray.ext
  simp only [ByteArray.data_extract, List.extract_toArray, List.extract_eq_take_drop]
  rw [List.take_of_length_le (by rw [List.length_drop]; omega)]

theorem Tryd.info_string : (Tryd.prog.info? 9).map (fun i => (i.zero, i.size, i.bytes)) = some (some (.string ByteArray.empty), 1, 16) := by kernel_rfl

theorem own_addr {base : Nat} {e : TypeId} {size : Nat} {w : World} {x : Addr} {n cap : Nat} {xs : List Value} (h : w.ownsRow base e size (.slice (some x) n cap) n xs) : ∃ g, x = ⟨g, 0, none⟩ ∧ base ≤ g ∧ g < w.heap.size := by
  rcases h.2 with ⟨h0, _⟩ | ⟨g, cap', cur, h0, hb, hg, _⟩
  · cases h0
  · simp only [Value.slice.injEq, Option.some.injEq] at h0
    exact ⟨g, h0.1, hb, (Array.getElem?_eq_some_iff.1 hg).1⟩

theorem owns_baseK {b b' : Nat} {e : TypeId} {size : Nat} {w : World} {v : Value} {n : Nat} {xs : List Value} (h : w.ownsRow b e size v n xs) (hb : b' ≤ b) : w.ownsRow b' e size v n xs := by
  refine ⟨h.1, ?_⟩
  rcases h.2 with h | ⟨g, cap, cur, h1, h2, h3⟩
  · exact .inl h
  · exact .inr ⟨g, cap, cur, h1, by omega, h3⟩

/-- Why a text is no pattern. -/
def errN (l : List UInt8) : Int := if (elsOf l).isNone = true then 30 else 0
theorem errN_some {l : List UInt8} {ps : List El} (h : elsOf l = some ps) : errN l = 0 := by unfold errN; rw [h]; rfl
theorem errN_none {l : List UInt8} (h : elsOf l = none) : errN l = 30 := by unfold errN; rw [h]; rfl

theorem sv_append (x y : List UInt8) : (⟨x.toArray⟩ : ByteArray) ++ ⟨y.toArray⟩ = ⟨(x ++ y).toArray⟩ := by
  apply ByteArray.ext
  simp [ByteArray.data_append]

theorem quote_len (l : List UInt8) : (quote l).length ≤ 2 * l.length := by
  refine lets_ind (M := fun l => (quote l).length ≤ 2 * l.length) (by simp [quote, lets_nil]) (fun l h ih => ?_) l
  have hb := wid_bounds l h
  have e : quote l = qc (l.take (wid l)) ++ quote (l.drop (wid l)) := by unfold quote; rw [lets_cons l h, List.flatMap_cons]
  have h1 : (qc (l.take (wid l))).length ≤ (l.take (wid l)).length + 1 := by unfold qc; split <;> simp
  rw [e, List.length_append]
  rw [List.length_drop] at ih
  rw [List.length_take] at h1
  omega

/-- What is fixed of a pattern; nothing, if it is none. -/
def fixS (l : List UInt8) : List UInt8 := match elsOf l with
  | some ps => (fixedE ps).1
  | none => []
def fixB (l : List UInt8) : Bool := match elsOf l with
  | some ps => (fixedE ps).2
  | none => false
theorem fix_some {l : List UInt8} {ps : List El} (h : elsOf l = some ps) : fixS l = (fixedE ps).1 ∧ fixB l = (fixedE ps).2 := by unfold fixS fixB; rw [h]; exact ⟨rfl, rfl⟩
theorem fix_none {l : List UInt8} (h : elsOf l = none) : fixS l = [] ∧ fixB l = false := by unfold fixS fixB; rw [h]; exact ⟨rfl, rfl⟩

theorem els_len : ∀ (n : Nat) (ls : List (List UInt8)) (ps : List El), ls.length ≤ n → els ls = some ps → ps.length ≤ ls.length ∧ ∀ c, El.lit c ∈ ps → c ∈ ls := fun n ls ps hn h => ⟨by
    induction n generalizing ls ps with
    | zero =>
      have : ls = [] := List.length_eq_zero_iff.1 (by omega)
      subst this
      have : ps = [] := by simpa [els] using h.symm
      subst this
      exact Nat.le_refl _
    | succ n ih =>
      cases ls with
      | nil =>
        have : ps = [] := by simpa [els] using h.symm
        subst this
        exact Nat.le_refl _
      | cons d t =>
        rw [els.eq_def] at h
        simp only at h
        simp only [List.length_cons] at hn ⊢
        split at h
        · split at h
          · cases h
          · rename_i d' t'
            obtain ⟨qs, hq, rfl⟩ := Option.map_eq_some_iff.1 h
            have := ih t' qs (by simp at hn; omega) hq
            simp
            omega
        · split at h
          · obtain ⟨qs, hq, rfl⟩ := Option.map_eq_some_iff.1 h
            have := ih t qs (by omega) hq
            simp
            omega
          · split at h
            · obtain ⟨qs, hq, rfl⟩ := Option.map_eq_some_iff.1 h
              have := ih t qs (by omega) hq
              simp
              omega
            · obtain ⟨qs, hq, rfl⟩ := Option.map_eq_some_iff.1 h
              have := ih t qs (by omega) hq
              simp
              omega, els_mem _ _ _ hn h⟩

end Go.Proofs.YtmlaedhmgkcdpaaDoor
