/-
  Two arrays of bytes held against each other: whether they are the same bytes.
-/
import Derived.Test.YthelgjoobckbaaaPagesStored
namespace Go.Proofs.Ythelgjoobckbaaa
open Go.RowKit Go.BigFrame

theorem eq_loop {P : Program} (w : World) (f : Nat → Option Bool × Unit → Sem (ForInStep (Option Bool × Unit))) (l m : List UInt8) (n : Nat) (hl : l.length = n) (hm : m.length = n)
    (hf : ∀ i a b, l[i]? = some a → m[i]? = some b → (f i (none, ())).run P w = .ok (if a = b then ForInStep.yield (none, ()) else ForInStep.done (some false, ())) w) :
    ∀ j k, k + j = n → (forIn (List.range' k j) (none, ()) f).run P w = .ok (if l.drop k = m.drop k then (none, ()) else (some false, ())) w
  | 0, k, h => by
    rw [List.drop_of_length_le (by omega), List.drop_of_length_le (by omega)]
    simp
  | j + 1, k, h => by
    have h1 : l[k]? = some (l[k]'(by omega)) := List.getElem?_eq_getElem (by omega)
    have h2 : m[k]? = some (m[k]'(by omega)) := List.getElem?_eq_getElem (by omega)
    have e := hf k _ _ h1 h2
    rw [List.drop_eq_getElem_cons (show k < l.length by omega), List.drop_eq_getElem_cons (show k < m.length by omega)]
    simp only [List.range'_succ, List.forIn_cons, Sem.run_bind, e, Result.andThen_ok]
    by_cases hab : l[k]'(by omega) = m[k]'(by omega)
    · simp only [hab, if_pos, List.cons.injEq, true_and]
      exact eq_loop w f l m n hl hm hf j (k + 1) (by omega)
    · rw [if_neg hab, if_neg (fun hh => hab (List.cons.inj hh).1)]
      simp

theorem eq_bytes (l m : List UInt8) (hl : l.length = 64) (hm : m.length = 64) (w : World) :
    (Op.equalIn 10000 73 (arrP l) (arrP m)).run Try.prog w = .ok (decide (l = m)) w := by
  have e1 := fun (a b : Int) (w : World) => run_equalIn_int (P := Try.prog) w 9998 5 .u8 .u8 a b Try.underlying5
  have u3 := Try.isAgg5
  have z3 := Try.sizeOf5
  rw [show (10000 : Nat) = 9999 + 1 from rfl, Op.equalIn]
  rw [show (9999 : Nat) = 9998 + 1 from rfl]
  generalize (9998 : Nat) = d at e1 ⊢
  unfold arrP
  simp [run_underlying Try.underlying73, z3, Std.Legacy.Range.forIn_eq_forIn_range', part]
  rw [eq_loop w _ l m 64 hl hm (fun i a b ha hb => ?_) 64 0 (by omega)]
  · simp only [List.drop_zero, Result.andThen_ok]
    by_cases h : l = m <;> simp [h]
  · rw [ha, hb]
    simp [u3, bv, e1]
    by_cases h : a = b
    · simp [h]
    · have h2 : ¬ ((a.toNat : Int) = (b.toNat : Int)) := fun hh => h (UInt8.toNat_inj.1 (by omega))
      simp [h, h2]

end Go.Proofs.Ythelgjoobckbaaa
