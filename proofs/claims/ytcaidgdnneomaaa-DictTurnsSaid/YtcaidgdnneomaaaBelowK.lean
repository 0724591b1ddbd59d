/-
  Blocks from a number on: as a relation that regions keep; a row cut to its first ones.
-/
import Derived.Test.YtcaidgdnneomaaaOnly
import Derived.Test.YtcaidgdnneomaaaCan
import Derived.BigQuiet
namespace Go.Proofs.Ytcaidgdnneomaaa
open Go.RowKit Go.BigFrame

theorem Below.keepsD (B : Nat) : Keeps (Below B) := ⟨fun _ => Below.refl _ _, fun _ _ _ h k => Below.trans h k⟩
instance (B : Nat) (w : World) : Inhabited (Later (Below B) w) := ⟨⟨w, Below.refl _ _⟩⟩
theorem owns_take {base : Nat} {e : TypeId} {w : World} {a : Option Addr} {n cap : Nat} {xs : List Value} (h : w.ownsRow base e 1 (.slice a n cap) n xs) (k : Nat) (hk : k ≤ n) : w.ownsRow base e 1 (.slice a k cap) k (xs.take k) := by
  obtain ⟨h1, h2⟩ := h
  refine ⟨by rw [List.length_take, h1]; omega, ?_⟩
  rcases h2 with ⟨h3, h4⟩ | ⟨g, c, cur, h3, h4, h5, h6, h7, h8, h9⟩
  · simp only [Value.slice.injEq] at h3
    obtain ⟨rfl, h10, rfl⟩ := h3
    have : k = 0 := by omega
    subst this
    exact .inl ⟨rfl, rfl⟩
  · simp only [Value.slice.injEq] at h3
    obtain ⟨rfl, -, rfl⟩ := h3
    refine .inr ⟨g, cap, cur, rfl, h4, h5, by omega, h7, h8, ?_⟩
    rw [← h9, List.take_take]
    congr 1
    omega
theorem ownBlock_len (a : Option Addr) (n m c : Nat) : (Value.slice a n c).ownBlock = (Value.slice a m c).ownBlock := by cases a <;> rfl
theorem empty_text (w : World) : (w.alloc (.cells #[] 9)).ownsRow w.heap.size 9 1 (.slice (some ⟨w.heap.size, 0, none⟩) 0 0) 0 [] := World.ownsRow_made w #[] 0 (Nat.le_refl _) (by simp [maxLen]) rfl

end Go.Proofs.Ytcaidgdnneomaaa
