/-
  The contracts of the document's own store of pages: what only reads.
-/
import Derived.Test.YthelgjoobckbaaaPagesPure
import Derived.Test.YthelgjoobckbaaaSlices
import Derived.Test.YthelgjoobckbaaaCrcRef
namespace Go.Proofs.Ythelgjoobckbaaa
open Go.RowKit

/-- A page of the document's own. -/
def pgC : Option (List UInt8) → List Value
  | none => [.bool false, .string ⟨#[]⟩]
  | some p => [.bool true, .string ⟨p.toArray⟩]

/-- The document's own store: its block, and that of its pages. -/
structure RSto (w : World) (q g : Nat) (s : St) : Prop where
  top : w.cell? ⟨q, 0, none⟩ = some (.slice (some ⟨g, 0, none⟩) s.length s.length)
  at' : ∀ i o, s[i]? = some o → ∀ j u, (pgC o)[j]? = some u → w.cell? ⟨g, i * 2 + j, none⟩ = some u
  free : ∀ j, w.frozen? ⟨g, j, none⟩ = false
  ne : q ≠ g
  lt : g < w.heap.size
  few : s.length ≤ 4096

theorem RSto.on {w : World} {q g : Nat} {s : St} (h : RSto w q g s) {i : Nat} {o : Option (List UInt8)} (hi : s[i]? = some o) : w.cell? ⟨g, i * 2, none⟩ = some (.bool o.isSome) := by
  have := h.at' i o hi 0
  cases o with
  | none => exact this _ rfl
  | some p => exact this _ rfl
theorem RSto.bytes {w : World} {q g : Nat} {s : St} (h : RSto w q g s) {i : Nat} {p : List UInt8} (hi : s[i]? = some (some p)) : w.cell? ⟨g, i * 2 + 1, none⟩ = some (.string ⟨p.toArray⟩) :=
  h.at' i _ hi 1 _ rfl

theorem refHas_any (q g : Nat) (s : St) (id : Int) (w : World) (h : RSto w q g s) (h0 : -9223372036854775808 ≤ id) (h1 : id ≤ 9223372036854775807) :
    Calls Try.prog 39 #[.pointer (some ⟨q, 0, none⟩), .int .i64 id] w fun e w' => e = .returned (.bool (pageS s id).isSome) ∧ w = w' := by
  have hq := h.top
  have hfew := h.few
  by_cases hn : id < 0
  · have hp : pageS s id = none := by unfold pageS; rw [if_neg (by omega)]
    rw [hp]
    have hd : decide (0 ≤ id) = false := decide_eq_false (by omega)
    clear hp hn
    go_enter Try.func39, Try.ntmps39
    go_wp2_with fail
    go_ret
    exact ⟨rfl, rfl⟩
  · obtain ⟨k, rfl⟩ := Int.eq_ofNat_of_zero_le (show 0 ≤ id by omega)
    by_cases hk : k < s.length
    · have hs : s[k]? = some s[k] := List.getElem?_eq_getElem hk
      have hp : (pageS s (k : Int)).isSome = (s[k]).isSome := by
        unfold pageS
        rw [if_pos (by omega), Int.toNat_natCast, hs]
        rfl
      rw [hp]
      have hc := h.on hs
      generalize (s[k]).isSome = B at hc ⊢
      clear hs hp h
      generalize s.length = L at hq hfew hk
      go_enter Try.func39, Try.ntmps39
      go_wp2_with fail
      go_ret
      exact ⟨rfl, rfl⟩
    · have hp : pageS s (k : Int) = none := by
        unfold pageS
        rw [if_pos (by omega), Int.toNat_natCast, List.getElem?_eq_none (by omega)]
        rfl
      rw [hp]
      clear hp h
      generalize s.length = L at hq hfew hk
      go_enter Try.func39, Try.ntmps39
      go_wp2_with fail
      go_ret
      exact ⟨rfl, rfl⟩

theorem refRaw_any (q g : Nat) (s : St) (id : Int) (w : World) (h : RSto w q g s) (h0 : -9223372036854775808 ≤ id) (h1 : id ≤ 9223372036854775807) :
    Calls Try.prog 19 #[.pointer (some ⟨q, 0, none⟩), .int .i64 id] w fun e w' => e = .returned (.tuple #[.string ⟨(rawS s id).1.toArray⟩, .int .i64 (rawS s id).2]) ∧ w = w' := by
  have HH := Lib.hid (refHas_any q g s id w h h0 h1)
  have hq := h.top
  have hfew := h.few
  unfold rawS
  cases hp : pageS s id with
  | none =>
    rw [hp] at HH
    clear hp hq hfew
    go_enter Try.func19, Try.ntmps19
    go_wp2_with fail
    refine HH.out.mono ?_
    rintro e w2 ⟨rfl, rfl⟩
    go_wp2_with fail
    go_ret2
    exact ⟨rfl, rfl⟩
  | some p =>
    obtain ⟨k0, k1, hs⟩ := pageS_lt hp
    rw [hp] at HH
    obtain ⟨k, rfl⟩ := Int.eq_ofNat_of_zero_le k0
    rw [Int.toNat_natCast] at hs
    have hc := h.bytes hs
    clear hp hs h
    generalize s.length = L at hq hfew k1
    go_enter Try.func19, Try.ntmps19
    go_wp2_with fail
    refine HH.out.mono ?_
    rintro e w2 ⟨rfl, rfl⟩
    go_wp2_with fail
    go_ret2
    exact ⟨rfl, rfl⟩

theorem refNeed_any (n : Int) (w : World) (h0 : -9223372036854775808 ≤ n) (h1 : n ≤ 9223372036854775807) :
    Calls Try.prog 28 #[.int .i64 n] w fun e w' => e = .returned (.int .i64 (needS n)) ∧ w = w' := by
  unfold needS
  by_cases h : n < 1
  · rw [if_pos h]
    go_enter Try.func28, Try.ntmps28
    go_wp2_with fail
    go_ret
    exact ⟨rfl, rfl⟩
  · rw [if_neg h]
    obtain ⟨k, rfl⟩ := Int.eq_ofNat_of_zero_le (show 0 ≤ n by omega)
    go_enter Try.func28, Try.ntmps28
    go_wp2_with fail
    go_ret
    exact ⟨rfl, rfl⟩

end Go.Proofs.Ythelgjoobckbaaa
