/-
  The walk of the law FormOnly.
-/
import Derived.Test.YtlbilmmjcfiokaaShown
import Derived.Test.YtlbilmmjcfiokaaRead
import Derived.Test.YtlbilmmjcfiokaaCan
import Derived.BigQuiet
namespace Go.Proofs.Ytlbilmmjcfiokaa
open Go.RowKit Go.BigFrame

theorem Only.below {B b : Nat} {w w' : World} (h : Only b w w') (hb : B ≤ b) (hB : B ≤ w.heap.size) : Below B w w' :=
  (Below.refl B w).grown h hB (fun k hk => by cases hk; exact hb)

/-- A reader goes on as it is where its own memory is as it was. -/
theorem Rdr.mono {T : TypeId} {B b : Nat} {w w' : World} {l : List UInt8} {bad : Bool} (h : RdrT T B w b l bad) (hb : Below w.heap.size w w') : RdrT T B w' b l bad := by
  obtain ⟨v, h1, h2, h3⟩ := h
  exact ⟨v, (hb.block b (Array.getElem?_eq_some_iff.1 h1).1).trans h1, h2.mono hb, h3⟩

theorem only_ext {w1 w2 w3 : World} {b : Nat} (h2 : Below w1.heap.size w1 w2) (h3 : Only b w2 w3) (hb : w1.heap.size ≤ b) : Below w1.heap.size w1 w3 :=
  h2.trans (h3.below hb h2.size)

/-- The bytes that were taken are the number's encoding. -/
theorem cut_enc {x : Addr} {m cap n s : Nat} {l : List UInt8} (hl : l.length = m) (_hm : m ≤ cap) (hf : front l = (n, s)) (hs : s ≠ 0) (W : World) (h : Rd W (.slice (some x) m cap) l) : Rd W (.slice (some x) s cap) (enc n) := by
  obtain ⟨_, h1, h2⟩ := front_sound l n s hf hs
  have hle := front_le hf
  have he : l.take s = enc n := by
    rw [h2, h1, List.take_left]
  rcases h with ⟨h0, _⟩ | ⟨x', cap', h0, h3, h4, h5⟩
  · cases h0
  · simp only [Value.slice.injEq, Option.some.injEq] at h0
    obtain ⟨rfl, _, rfl⟩ := h0
    have := RdV.takes h3 h4 h5 s s (by rw [List.length_map]; omega)
    rw [← List.map_take, he] at this
    exact this

theorem only_end {w w1 w2 w3 : World} {b : Nat} (h1 : Below w.heap.size w w1) (h2 : Below w1.heap.size w1 w2) (h3 : Only b w2 w3) (hb : w1.heap.size ≤ b) : Below w.heap.size w w3 := by
  have s1 := h1.size
  have s2 := h2.size
  exact (h1.trans (h2.mono s1)).trans (h3.below (by omega) (by omega))

end Go.Proofs.Ytlbilmmjcfiokaa
