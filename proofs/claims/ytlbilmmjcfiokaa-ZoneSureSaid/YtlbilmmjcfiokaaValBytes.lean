/-
  A value's bytes, and the value that bytes begin with. No program.
-/
import Derived.Test.YtlbilmmjcfiokaaVal
import Derived.Test.YtlbilmmjcfiokaaPure
namespace Go.Proofs.Ytlbilmmjcfiokaa
open Go.RowKit

def encV (v : V) : List UInt8 :=
  if rightV v = true then UInt8.ofNat v.k.toNat :: (if v.k = 1 ∨ v.k = 2 then enc (zig v.n) else if v.k = 3 then enc v.s.length ++ v.s else []) else [0]

def takeV : List UInt8 → Option (V × List UInt8)
  | [] => none
  | c :: t =>
    if c = 0 then some (V.zero, t)
    else if c = 1 ∨ c = 2 then
      (if (front t).2 = 0 then none else if rightV ⟨(c.toNat : Int), zag (front t).1, []⟩ = true then some (⟨(c.toNat : Int), zag (front t).1, []⟩, t.drop (front t).2) else none)
    else if c = 3 then
      (if (front t).2 = 0 then none else if (front t).1 ≤ 1024 ∧ (front t).1 ≤ (t.drop (front t).2).length then some (⟨3, 0, (t.drop (front t).2).take (front t).1⟩, (t.drop (front t).2).drop (front t).1) else none)
    else none

/-- What is taken again of what was put. -/
def keepV (v : V) : V := if rightV v = true then v else V.zero

theorem zig_lt (n : Int) (h0 : -9223372036854775808 ≤ n) (h1 : n ≤ 9223372036854775807) : zig n < 2 ^ 64 := by
  unfold zig
  split <;> omega

theorem takeV_enc (v : V) (hv : v.fits) (m : List UInt8) : takeV (encV v ++ m) = some (keepV v, m) := by
  unfold encV keepV
  cases hr : rightV v with
  | false => rfl
  | true =>
    rw [if_pos rfl, if_pos rfl]
    obtain ⟨k, n, s⟩ := v
    have hlo : -9223372036854775808 ≤ n := hv.lo
    have hhi : n ≤ 9223372036854775807 := hv.hi
    have hz := zig_lt n hlo hhi
    have he := enc_pos (zig n)
    rcases (rightV_iff _).1 hr with ⟨h1, h2, h3⟩ | ⟨h1, h2, h3⟩ | ⟨h1, h2⟩ | ⟨h1, h2, h3⟩
    · simp only at h1 h2 h3
      subst h1 h2 h3
      rfl
    · simp only at h1 h2 h3
      subst h1 h3
      have hf := front_enc (zig n) m hz
      show takeV ((1 : UInt8) :: (enc (zig n) ++ m)) = _
      rw [takeV, if_neg (by decide), if_pos (by decide), hf]
      simp only
      rw [if_neg (by omega), zag_zig n hlo hhi, List.drop_left]
      exact if_pos hr
    · simp only at h1 h2
      subst h1 h2
      have hf := front_enc (zig n) m hz
      show takeV ((2 : UInt8) :: (enc (zig n) ++ m)) = _
      rw [takeV, if_neg (by decide), if_pos (by decide), hf]
      simp only
      rw [if_neg (by omega), zag_zig n hlo hhi, List.drop_left]
      exact if_pos hr
    · simp only at h1 h2 h3
      subst h1 h2
      have hp := enc_pos s.length
      have hf := front_enc s.length (s ++ m) (by omega)
      show takeV ((3 : UInt8) :: ((enc s.length ++ s) ++ m)) = _
      rw [takeV, if_neg (by decide), if_neg (by decide), if_pos (by decide), List.append_assoc, hf]
      simp only
      rw [if_neg (by omega), List.drop_left, if_pos ⟨h3, by rw [List.length_append]; omega⟩, List.take_left, List.drop_left]

theorem encV_pos (v : V) : 1 ≤ (encV v).length := by unfold encV; split <;> simp
theorem encV_le (v : V) : (encV v).length ≤ 2000 := by
  unfold encV
  split
  · rename_i h
    have h1 := enc_length (zig v.n)
    have h2 := enc_length v.s.length
    have h3 : v.k = 3 → v.s.length ≤ 1024 := fun hk => by
      rcases (rightV_iff v).1 h with h | h | h | h <;> omega
    split
    · simp; omega
    · split
      · rename_i hk
        have := h3 hk
        simp
        omega
      · simp
  · simp

end Go.Proofs.Ytlbilmmjcfiokaa
