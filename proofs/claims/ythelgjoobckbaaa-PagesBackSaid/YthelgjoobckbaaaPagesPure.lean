/-
  Pages: a store as a list of pages, each free or bytes. No program.
-/
import Derived.Test.YthelgjoobckbaaaSum
namespace Go.Proofs.Ythelgjoobckbaaa
open Go.RowKit

def zeros (n : Nat) : List UInt8 := List.replicate n 0
/-- A page's number, as it lies there. -/
def id4 (id : Nat) : List UInt8 := [UInt8.ofNat (id / 16777216), UInt8.ofNat (id / 65536), UInt8.ofNat (id / 256), UInt8.ofNat id]
def fill (b : List UInt8) : List UInt8 := b ++ zeros (56 - b.length)
/-- A page's bytes. -/
def layP (id : Nat) (b : List UInt8) : List UInt8 := sealed (fill b ++ id4 id)

theorem fill_length (b : List UInt8) (h : b.length ≤ 56) : (fill b).length = 56 := by
  unfold fill zeros
  rw [List.length_append, List.length_replicate]
  omega
theorem layP_length (id : Nat) (b : List UInt8) (h : b.length ≤ 56) : (layP id b).length = 64 := by
  unfold layP sealed be4 id4
  rw [List.length_append, List.length_append, fill_length b h]
  rfl
theorem layP_take (id : Nat) (b : List UInt8) (h : b.length ≤ 56) : (layP id b).take 56 = fill b := by
  unfold layP sealed
  rw [List.append_assoc, List.take_append_of_le_length (by rw [fill_length b h]; exact Nat.le_refl _), List.take_of_length_le (by rw [fill_length b h]; exact Nat.le_refl _)]
theorem fill_full (b : List UInt8) (h : b.length = 56) : fill b = b := by
  unfold fill zeros
  rw [h]
  simp

/-- A store: of each page that it is free, or its bytes. -/
abbrev St := List (Option (List UInt8))
def usedS (s : St) : Nat := s.countP Option.isSome
/-- A page that is not free. -/
def pageS (s : St) (id : Int) : Option (List UInt8) := if 0 ≤ id then (s[id.toNat]?).join else none
/-- The first n free pages, from number i on, taken. -/
def takeS (i : Nat) : Nat → St → List Nat × St
  | 0, s => ([], s)
  | _ + 1, [] => ([], [])
  | n + 1, none :: t => (i :: (takeS (i + 1) n t).1, some (layP i []) :: (takeS (i + 1) n t).2)
  | n + 1, some p :: t => ((takeS (i + 1) (n + 1) t).1, some p :: (takeS (i + 1) (n + 1) t).2)

def allocS (s : St) (n : Int) : (List Nat × Int) × St :=
  if n < 0 then (([], 1), s) else if ((s.length : Int) - usedS s) < n then (([], 4), s) else (((takeS 0 n.toNat s).1, 0), (takeS 0 n.toNat s).2)
def setS (s : St) (id : Int) (p : Option (List UInt8)) : St := s.set id.toNat p
def freeS (s : St) (id : Int) : Int × St := match pageS s id with | none => (2, s) | some _ => (0, setS s id none)
def writeS (s : St) (id : Int) (b : List UInt8) : Int × St :=
  match pageS s id with
  | none => (2, s)
  | some _ => if 56 < b.length then (3, s) else (0, setS s id (some (layP id.toNat b)))
def readS (s : St) (id : Int) : List UInt8 × Int :=
  match pageS s id with
  | none => ([], 2)
  | some p => if layP id.toNat (p.take 56) = p then (p.take 56, 0) else ([], 6)
def rawS (s : St) (id : Int) : List UInt8 × Int := match pageS s id with | none => ([], 2) | some p => (p, 0)
/-- A byte turned. -/
def turnB (p : List UInt8) (k : Nat) (m : UInt8) : List UInt8 := p.set k (p.getD k 0 ^^^ m)
def flipS (s : St) (id k : Int) (m : UInt8) : St :=
  match pageS s id with
  | none => s
  | some p => if 0 ≤ k ∧ k < 64 then setS s id (some (turnB p k.toNat m)) else s
def needS (n : Int) : Int := if n < 1 then 0 else (n - 1) / 56 + 1
/-- Bytes onto pages, 56 to each. -/
def writesS : List Nat → List UInt8 → St → St
  | [], _, s => s
  | id :: t, b, s => writesS t (b.drop 56) (s.set id (some (layP id (b.take 56))))
def putS (s : St) (b : List UInt8) : (List Nat × Int) × St :=
  if (allocS s (needS b.length)).1.2 = 0 then (((allocS s (needS b.length)).1.1, 0), writesS (allocS s (needS b.length)).1.1 b (allocS s (needS b.length)).2)
  else (([], (allocS s (needS b.length)).1.2), s)
/-- What pages hold, one behind the other, or the first error. -/
def readsS (s : St) : List Int → List UInt8 × Int
  | [] => ([], 0)
  | id :: t => if (readS s id).2 = 0 then (if (readsS s t).2 = 0 then ((readS s id).1 ++ (readsS s t).1, 0) else ([], (readsS s t).2)) else ([], (readS s id).2)
def getS (s : St) (ids : List Int) (n : Int) : List UInt8 × Int :=
  if n < 0 ∨ (ids.length : Int) ≠ needS n then ([], 1)
  else if (readsS s ids).2 ≠ 0 then ([], (readsS s ids).2)
  else if ((readsS s ids).1.drop n.toNat).all (· == 0) = true then ((readsS s ids).1.take n.toNat, 0) else ([], 6)
def dropS (s : St) : List Int → St
  | [] => s
  | id :: t => dropS (freeS s id).2 t

/-- Each page that is not free has its bytes. -/
def okS (s : St) : Prop := s.length ≤ 4096 ∧ ∀ p, some p ∈ s → p.length = 64

theorem pageS_mem {s : St} {id : Int} {p : List UInt8} (h : pageS s id = some p) : some p ∈ s := by
  unfold pageS at h
  split at h
  · cases hg : s[id.toNat]? with
    | none => rw [hg] at h; cases h
    | some q =>
      rw [hg] at h
      simp only [Option.join_some] at h
      subst h
      exact List.mem_of_getElem? hg
  · cases h
theorem pageS_lt {s : St} {id : Int} {p : List UInt8} (h : pageS s id = some p) : 0 ≤ id ∧ id < s.length ∧ s[id.toNat]? = some (some p) := by
  unfold pageS at h
  split at h
  · rename_i h0
    cases hg : s[id.toNat]? with
    | none => rw [hg] at h; cases h
    | some q =>
      rw [hg] at h
      simp only [Option.join_some] at h
      subst h
      have := (List.getElem?_eq_some_iff.1 hg).1
      exact ⟨h0, by omega, rfl⟩
  · cases h
theorem okS.set {s : St} (h : okS s) (i : Nat) (p : Option (List UInt8)) (hp : ∀ q, p = some q → q.length = 64) : okS (s.set i p) := by
  refine ⟨by rw [List.length_set]; exact h.1, fun q hq => ?_⟩
  rcases List.mem_or_eq_of_mem_set hq with h1 | h1
  · exact h.2 q h1
  · exact hp q h1.symm
theorem takeS_length : ∀ (n i : Nat) (s : St), (takeS i n s).2.length = s.length
  | 0, _, _ => by simp only [takeS]
  | _ + 1, _, [] => rfl
  | n + 1, i, none :: t => by simp only [takeS, List.length_cons, takeS_length n (i + 1) t]
  | n + 1, i, some _ :: t => by simp only [takeS, List.length_cons, takeS_length (n + 1) (i + 1) t]
theorem takeS_ok : ∀ (n i : Nat) (s : St), (∀ p, some p ∈ s → p.length = 64) → ∀ p, some p ∈ (takeS i n s).2 → p.length = 64
  | 0, _, _, h, p, hp => by
    simp only [takeS] at hp
    exact h p hp
  | _ + 1, _, [], _, p, hp => by cases hp
  | n + 1, i, none :: t, h, p, hp => by
    simp only [takeS, List.mem_cons, Option.some.injEq] at hp
    rcases hp with rfl | hp
    · exact layP_length i [] (by simp)
    · exact takeS_ok n (i + 1) t (fun q hq => h q (.tail _ hq)) p hp
  | n + 1, i, some q :: t, h, p, hp => by
    simp only [takeS, List.mem_cons, Option.some.injEq] at hp
    rcases hp with rfl | hp
    · exact h p (.head _)
    · exact takeS_ok (n + 1) (i + 1) t (fun q hq => h q (.tail _ hq)) p hp
theorem allocS_ok {s : St} (h : okS s) (n : Int) : okS (allocS s n).2 := by
  unfold allocS
  split
  · exact h
  · split
    · exact h
    · exact ⟨by rw [takeS_length]; exact h.1, takeS_ok _ _ s h.2⟩
theorem freeS_ok {s : St} (h : okS s) (id : Int) : okS (freeS s id).2 := by
  unfold freeS
  split
  · exact h
  · exact h.set _ _ (fun q hq => by cases hq)
theorem writeS_ok {s : St} (h : okS s) (id : Int) (b : List UInt8) : okS (writeS s id b).2 := by
  unfold writeS
  split
  · exact h
  · split
    · exact h
    · exact h.set _ _ (fun q hq => by cases hq; exact layP_length _ b (by omega))
theorem flipS_ok {s : St} (h : okS s) (id k : Int) (m : UInt8) : okS (flipS s id k m) := by
  unfold flipS
  split
  · exact h
  · rename_i p hp
    split
    · exact h.set _ _ (fun q hq => by cases hq; unfold turnB; rw [List.length_set]; exact h.2 p (pageS_mem hp))
    · exact h
theorem writesS_ok : ∀ (ids : List Nat) (b : List UInt8) (s : St), okS s → okS (writesS ids b s)
  | [], _, _, h => h
  | id :: t, b, s, h => writesS_ok t _ _ (h.set _ _ (fun q hq => by cases hq; exact layP_length _ _ (by rw [List.length_take]; omega)))
theorem putS_ok {s : St} (h : okS s) (b : List UInt8) : okS (putS s b).2 := by
  unfold putS
  split
  · exact writesS_ok _ _ _ (allocS_ok h _)
  · exact h
theorem dropS_ok : ∀ (ids : List Int) (s : St), okS s → okS (dropS s ids)
  | [], _, h => h
  | id :: t, _, h => dropS_ok t _ (freeS_ok h id)

end Go.Proofs.Ythelgjoobckbaaa
