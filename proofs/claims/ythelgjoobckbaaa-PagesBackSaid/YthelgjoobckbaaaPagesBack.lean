/-
  The walk of the law PagesBack.
-/
import Derived.Test.YthelgjoobckbaaaPagesDoesB
import Derived.Test.YthelgjoobckbaaaPagesMath
import Derived.Test.YthelgjoobckbaaaMapSet
import Derived.Test.YthelgjoobckbaaaPagesLeast
namespace Go.Proofs.Ythelgjoobckbaaa
open Go.RowKit Go.BigFrame

theorem head_slice {w : World} {va : Option Addr} {L vc : Nat} {l : List UInt8} (hr : Rd w (.slice va L vc) l) (K : Nat) (hK : K ≤ L) (W : World) :
    (Instr.slice 33 (.slice va L vc) none (some (.int .i64 (K : Int))) none).run Try.prog W = .ok (.slice va K vc) W := by
  rcases hr with ⟨h1, h2⟩ | ⟨x, cap', h1, h3, h4, h5⟩
  · simp only [Value.slice.injEq] at h1
    obtain ⟨rfl, rfl, rfl⟩ := h1
    have hK0 : K = 0 := by omega
    subst hK0
    simp [Instr.slice, Instr.sliceBounds, Instr.sliceBound, run_underlying Try.underlying33, go_sem]
  · simp only [Value.slice.injEq] at h1
    obtain ⟨rfl, h6, rfl⟩ := h1
    have hKc : K ≤ vc := by omega
    simp [Instr.slice, Instr.sliceBounds, Instr.sliceBound, run_underlying Try.underlying33, go_sem, hKc]
theorem head_rd {w : World} {va : Option Addr} {L vc : Nat} {l : List UInt8} (hr : Rd w (.slice va L vc) l) (K : Nat) (hK : K ≤ l.length) : Rd w (.slice va K vc) (l.take K) := by
  rcases hr with ⟨h1, h2⟩ | ⟨x, cap', h1, h3, h4, h5⟩
  · have hl0 : l = [] := by simpa using h2
    subst hl0
    have hk0 : K = 0 := by simpa using hK
    subst hk0
    simp only [Value.slice.injEq] at h1
    obtain ⟨rfl, -, rfl⟩ := h1
    exact Rd.nil w
  · simp only [Value.slice.injEq] at h1
    obtain ⟨rfl, -, rfl⟩ := h1
    refine .inr ⟨x, vc, by rw [List.length_map, List.length_take, Nat.min_eq_left hK], by rw [List.length_map, List.length_take]; rw [List.length_map] at h3; omega, h4, fun i u hu => ?_⟩
    rw [List.map_take, List.getElem?_take] at hu
    split at hu
    · exact h5 i u hu
    · cases hu

theorem used_set (o : Option (List UInt8)) : ∀ (s : St) (i : Nat), usedS (s.set i o) ≤ usedS s + 1
  | [], i => by simp [usedS]
  | a :: t, 0 => by
    unfold usedS
    rw [List.set_cons_zero, List.countP_cons, List.countP_cons]
    split <;> omega
  | a :: t, i + 1 => by
    have ih := used_set o t i
    unfold usedS at ih ⊢
    rw [List.set_cons_succ, List.countP_cons, List.countP_cons]
    omega
theorem used_writes : ∀ (ids : List Nat) (b : List UInt8) (s : St), usedS (writesS ids b s) ≤ usedS s + ids.length
  | [], _, s => Nat.le_refl _
  | id :: t, b, s => by
    unfold writesS
    have h1 := used_writes t (b.drop 56) (s.set id (some (layP id (b.take 56))))
    have h2 := used_set (some (layP id (b.take 56))) s id
    rw [List.length_cons]
    omega
/-- There is room for up to 500 bytes where 9 pages are free. -/
theorem put_room {s : St} {x : List UInt8} (hx : x.length ≤ 500) (hu : usedS s + 9 ≤ s.length) :
    (putS s x).1.2 = 0 ∧ (putS s x).1.1.length ≤ 9 ∧ usedS (putS s x).2 ≤ usedS s + 18 ∧ (putS s x).2.length = s.length := by
  have hn : 0 ≤ needS (x.length : Int) ∧ needS (x.length : Int) ≤ 9 := by unfold needS; split <;> omega
  have hal := allocS_fits (s := s) (needS (x.length : Int)) (by omega) (by omega)
  have hcnt := takeS_count (needS (x.length : Int)).toNat 0 s (by omega)
  have hput : putS s x = (((takeS 0 (needS (x.length : Int)).toNat s).1, 0), writesS (takeS 0 (needS (x.length : Int)).toNat s).1 x (takeS 0 (needS (x.length : Int)).toNat s).2) := by
    unfold putS
    rw [hal, if_pos rfl]
  have h1 := used_writes (takeS 0 (needS (x.length : Int)).toNat s).1 x (takeS 0 (needS (x.length : Int)).toNat s).2
  have h2 := takeS_used (needS (x.length : Int)).toNat 0 s (by omega)
  rw [hput]
  refine ⟨rfl, ?_, ?_, ?_⟩
  · simp only; rw [hcnt]; omega
  · simp only; rw [hcnt] at h1; omega
  · simp only; rw [writesS_length, takeS_length]

end Go.Proofs.Ythelgjoobckbaaa
