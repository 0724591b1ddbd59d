/-
  A number taken off the front of bytes: over lists. No program.
-/
import Derived.Test.YtlbilmmjcfiokaaPure
namespace Go.Proofs.Ytlbilmmjcfiokaa

/-- A number taken off the front, what is left, and whether that failed. -/
def tk (l : List UInt8) : Nat × List UInt8 × Bool := if (front l).2 = 0 then (0, [], true) else ((front l).1, l.drop (front l).2, false)
theorem tk_enc (n : Nat) (t : List UInt8) (hn : n < 2 ^ 64) : tk (enc n ++ t) = (n, t, false) := by
  unfold tk
  rw [front_enc n t hn]
  have := enc_pos n
  rw [if_neg (by simp only; omega)]
  simp
theorem tk_lt (l : List UInt8) : (tk l).1 < 2 ^ 64 := by
  unfold tk
  split
  · simp
  · rename_i h
    exact (front_sound l (front l).1 (front l).2 rfl h).1
theorem tk_bad {l : List UInt8} (h : (tk l).2.2 = true) : tk l = (0, [], true) := by
  unfold tk at h ⊢
  split
  · rfl
  · rename_i hn; rw [if_neg hn] at h; cases h
theorem tk_ok {l : List UInt8} (h : (front l).2 ≠ 0) : tk l = ((front l).1, l.drop (front l).2, false) := by
  unfold tk
  rw [if_neg h]
theorem tk_no {l : List UInt8} (h : (front l).2 = 0) : tk l = (0, [], true) := by
  unfold tk
  rw [if_pos h]
theorem tk_len (l : List UInt8) : (tk l).2.1.length ≤ l.length ∧ ((tk l).2.2 = false → (tk l).2.1.length + 1 ≤ l.length) := by
  by_cases h : (front l).2 = 0
  · rw [tk_no h]
    exact ⟨Nat.zero_le _, fun h => by cases h⟩
  · rw [tk_ok h]
    obtain ⟨h1, h2, h3⟩ := front_sound l (front l).1 (front l).2 rfl h
    have h4 := congrArg List.length h3
    rw [List.length_append] at h4
    have h5 := enc_pos (front l).1
    generalize (front l).1 = q at h4 h5
    generalize l.drop (front l).2 = r at h4
    exact ⟨show r.length ≤ l.length by omega, fun _ => show r.length + 1 ≤ l.length by omega⟩
theorem tk_zig_lt {x : Int} (h0 : -9223372036854775808 ≤ x) (h1 : x ≤ 9223372036854775807) : zig x < 2 ^ 64 := by
  by_cases h : x < 0
  · have := zig_neg x h; omega
  · have := zig_pos x h; omega
theorem tk_zag_fits {n : Nat} (h : n < 2 ^ 64) : -9223372036854775808 ≤ zag n ∧ zag n ≤ 9223372036854775807 := by
  unfold zag
  split <;> omega

/-- A text taken off the front, what is left, and whether that failed. -/
def tkT (l : List UInt8) : List UInt8 × List UInt8 × Bool :=
  if (front l).2 = 0 then ([], [], true) else if 1024 < (front l).1 ∨ (l.drop (front l).2).length < (front l).1 then ([], [], true) else ((l.drop (front l).2).take (front l).1, (l.drop (front l).2).drop (front l).1, false)
theorem tkT_no {l : List UInt8} (h : (front l).2 = 0) : tkT l = ([], [], true) := if_pos h
theorem tkT_long {l : List UInt8} (h : (front l).2 ≠ 0) (hn : 1024 < (front l).1 ∨ (l.drop (front l).2).length < (front l).1) : tkT l = ([], [], true) := by
  unfold tkT
  rw [if_neg h, if_pos hn]
theorem tkT_ok {l : List UInt8} (h : (front l).2 ≠ 0) (hn : ¬ (1024 < (front l).1 ∨ (l.drop (front l).2).length < (front l).1)) : tkT l = ((l.drop (front l).2).take (front l).1, (l.drop (front l).2).drop (front l).1, false) := by
  unfold tkT
  rw [if_neg h, if_neg hn]
theorem tkT_enc (s t : List UInt8) (hs : s.length ≤ 1024) : tkT (enc s.length ++ s ++ t) = (s, t, false) := by
  have hf := front_enc s.length (s ++ t) (by omega)
  rw [← List.append_assoc] at hf
  have hp := enc_pos s.length
  have hd : (enc s.length ++ s ++ t).drop (enc s.length).length = s ++ t := by rw [List.append_assoc, List.drop_left]
  rw [tkT_ok (by rw [hf]; simp only; omega) (by rw [hf]; simp only; rw [hd, List.length_append]; omega), hf]
  simp only
  rw [hd, List.take_left, List.drop_left]
theorem tkT_bad {l : List UInt8} (h : (tkT l).2.2 = true) : tkT l = ([], [], true) := by
  by_cases h0 : (front l).2 = 0
  · exact tkT_no h0
  · by_cases hn : 1024 < (front l).1 ∨ (l.drop (front l).2).length < (front l).1
    · exact tkT_long h0 hn
    · rw [tkT_ok h0 hn] at h
      cases h
theorem tkT_len (l : List UInt8) : (tkT l).1.length ≤ 1024 ∧ (tkT l).1.length + (tkT l).2.1.length ≤ l.length := by
  by_cases h0 : (front l).2 = 0
  · rw [tkT_no h0]; exact ⟨Nat.zero_le _, Nat.zero_le _⟩
  · by_cases hn : 1024 < (front l).1 ∨ (l.drop (front l).2).length < (front l).1
    · rw [tkT_long h0 hn]; exact ⟨Nat.zero_le _, Nat.zero_le _⟩
    · rw [tkT_ok h0 hn]
      simp only [List.length_take, List.length_drop]
      omega
theorem tkT_sound {l : List UInt8} (h : (tkT l).2.2 = false) : l = enc (tkT l).1.length ++ (tkT l).1 ++ (tkT l).2.1 := by
  by_cases h0 : (front l).2 = 0
  · rw [tkT_no h0] at h; cases h
  · by_cases hn : 1024 < (front l).1 ∨ (l.drop (front l).2).length < (front l).1
    · rw [tkT_long h0 hn] at h; cases h
    · obtain ⟨h1, h2, h3⟩ := front_sound l (front l).1 (front l).2 rfl h0
      rw [tkT_ok h0 hn]
      simp only
      have e : ((l.drop (front l).2).take (front l).1).length = (front l).1 := by rw [List.length_take]; omega
      rw [e, List.append_assoc, List.take_append_drop]
      exact h3
theorem tk_sound {l : List UInt8} (h : (tk l).2.2 = false) : l = enc (tk l).1 ++ (tk l).2.1 ∧ (tk l).1 < 2 ^ 64 := by
  by_cases h0 : (front l).2 = 0
  · rw [tk_no h0] at h; cases h
  · rw [tk_ok h0]
    obtain ⟨h1, h2, h3⟩ := front_sound l (front l).1 (front l).2 rfl h0
    exact ⟨h3, h1⟩

end Go.Proofs.Ytlbilmmjcfiokaa
