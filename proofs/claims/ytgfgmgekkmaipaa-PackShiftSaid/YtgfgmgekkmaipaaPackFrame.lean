/-
  The numbers whose frame that is. No program.
-/
import Derived.Test.YtgfgmgekkmaipaaPackPure
namespace Go.Proofs.Ytgfgmgekkmaipaa

theorem frame_parts {l : List Int} (h : l ≠ []) : frameB l = enc l.length ++ (enc (zig (leastS l)) ++ (enc (widthS (moreS l)) ++ packB (moreS l) (widthS (moreS l)))) := by
  unfold frameB
  rw [if_neg h]
theorem pack_zig_lt {n : Int} (h0 : -9223372036854775808 ≤ n) (h1 : n ≤ 9223372036854775807) : zig n < 2 ^ 64 := by
  unfold zig
  split <;> omega
/-- What one reads of a frame, one behind the other. -/
theorem frame_front {b : List UInt8} {l : List Int} (h : IsFrame b l) : (front b).1 = l.length ∧ (front b).2 ≠ 0 ∧ b.drop (front b).2 = (if l = [] then [] else enc (zig (leastS l)) ++ (enc (widthS (moreS l)) ++ packB (moreS l) (widthS (moreS l)))) := by
  obtain ⟨hf, hl, rfl⟩ := h
  have hfr := front_enc l.length (if l = [] then [] else enc (zig (leastS l)) ++ (enc (widthS (moreS l)) ++ packB (moreS l) (widthS (moreS l)))) (by omega)
  have e : frameB l = enc l.length ++ (if l = [] then [] else enc (zig (leastS l)) ++ (enc (widthS (moreS l)) ++ packB (moreS l) (widthS (moreS l)))) := rfl
  rw [e, hfr]
  exact ⟨rfl, by have := enc_pos l.length; simp only; omega, List.drop_left⟩
theorem front_more (n : Nat) (t : List UInt8) (hn : n < 2 ^ 64) : (front (enc n ++ t)).1 = n ∧ (front (enc n ++ t)).2 ≠ 0 ∧ (enc n ++ t).drop (front (enc n ++ t)).2 = t := by
  rw [front_enc n t hn]
  exact ⟨rfl, by have := enc_pos n; simp only; omega, List.drop_left⟩
theorem leastS_fits {l : List Int} (h : ∀ x ∈ l, -9223372036854775808 ≤ x ∧ x ≤ 9223372036854775807) (hn : l ≠ []) : -9223372036854775808 ≤ leastS l ∧ leastS l ≤ 9223372036854775807 := h _ (leastS_mem hn)
/-- The numbers that the parts of a frame tell. -/
theorem frame_tells {b : List UInt8} {l : List Int} (h : IsFrame b l) (hn : l ≠ []) : ∃ r1 r2 r3 : List UInt8,
    b.drop (front b).2 = r1 ∧ (front r1).2 ≠ 0 ∧ zag (front r1).1 = leastS l ∧ r1.drop (front r1).2 = r2 ∧ (front r2).2 ≠ 0 ∧ (front r2).1 = widthS (moreS l) ∧ r2.drop (front r2).2 = r3 ∧
    unpackS r3 (l.length : Int) ((widthS (moreS l) : Nat) : Int) = (moreS l, 0) := by
  obtain ⟨_, _, h3⟩ := frame_front h
  rw [if_neg hn] at h3
  obtain ⟨hf, hl, hb⟩ := h
  have hz := leastS_fits hf hn
  obtain ⟨a1, a2, a3⟩ := front_more (zig (leastS l)) (enc (widthS (moreS l)) ++ packB (moreS l) (widthS (moreS l))) (pack_zig_lt hz.1 hz.2)
  obtain ⟨b1, b2, b3⟩ := front_more (widthS (moreS l)) (packB (moreS l) (widthS (moreS l))) (by have := widthS_le (moreS l); omega)
  refine ⟨_, _, _, h3, a2, by rw [a1]; exact zag_zig _ hz.1 hz.2, a3, b2, b1, b3, ?_⟩
  have hbs : (bytesS (((moreS l).length : Nat) : Int) ((widthS (moreS l) : Nat) : Int)).2 = 0 := by
    unfold bytesS
    rw [if_neg, if_neg]
    · rw [moreS_length]; omega
    · have := widthS_le (moreS l); omega
  have hu := unpack_pack hbs (moreS_lt hf) (Nat.le_refl _)
  rw [Int.toNat_natCast, moreS_length] at hu
  exact hu
theorem frame_inj {b : List UInt8} {l l' : List Int} (h : IsFrame b l) (h' : IsFrame b l') : l = l' := by
  have e1 := (frame_front h).1
  have e2 := (frame_front h').1
  have hlen : l.length = l'.length := by omega
  by_cases hn : l = []
  · subst hn
    exact (List.length_eq_zero_iff.1 hlen.symm).symm
  · have hn' : l' ≠ [] := fun h => hn (List.length_eq_zero_iff.1 (by rw [hlen, h]; rfl))
    obtain ⟨r1, r2, r3, a1, a2, a3, a4, a5, a6, a7, a8⟩ := frame_tells h hn
    obtain ⟨s1, s2, s3, b1, b2, b3, b4, b5, b6, b7, b8⟩ := frame_tells h' hn'
    have c1 : r1 = s1 := a1.symm.trans b1
    subst c1
    have c2 : r2 = s2 := a4.symm.trans b4
    subst c2
    have c3 : r3 = s3 := a7.symm.trans b7
    subst c3
    rw [← hlen, ← b6, a6, a8] at b8
    have hm : moreS l = moreS l' := congrArg Prod.fst b8
    have hle : leastS l = leastS l' := a3.symm.trans b3
    rw [← more_back (l := l), ← more_back (l := l'), hm, hle]

open Classical in
/-- The numbers whose frame those bytes are. -/
noncomputable def unframeS (b : List UInt8) : List Int × Int := if h : ∃ l, IsFrame b l then (h.choose, 0) else ([], 6)
theorem unframe_yes {b : List UInt8} {l : List Int} (h : IsFrame b l) : unframeS b = (l, 0) := by
  have hex : ∃ l, IsFrame b l := ⟨l, h⟩
  unfold unframeS
  rw [dif_pos hex, frame_inj hex.choose_spec h]
theorem unframe_no {b : List UInt8} (h : ¬ ∃ l, IsFrame b l) : unframeS b = ([], 6) := by
  unfold unframeS
  rw [dif_neg h]

theorem frame_nil : IsFrame (enc 0) [] := ⟨fun x hx => (by cases hx), by simp, by unfold frameB; simp⟩
/-- Bytes that begin with no number from 1 to 4096. -/
theorem frame_none {b : List UInt8} (h : ¬ ((front b).2 ≠ 0 ∧ (front b).1 ≠ 0 ∧ (front b).1 ≤ 4096)) (hb : b ≠ enc 0) : unframeS b = ([], 6) := by
  refine unframe_no fun ⟨l, hl⟩ => ?_
  obtain ⟨h1, h2, h3⟩ := frame_front hl
  by_cases hn : l = []
  · subst hn
    exact hb (by rw [← hl.2.2]; unfold frameB; simp)
  · refine h ⟨h2, ?_, by rw [h1]; exact hl.2.1⟩
    rw [h1]
    exact fun h => hn (List.length_eq_zero_iff.1 h)

end Go.Proofs.Ytgfgmgekkmaipaa
