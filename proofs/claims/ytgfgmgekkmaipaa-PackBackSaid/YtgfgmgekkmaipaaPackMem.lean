/-
  Numbers of 64 bits in memory; what the calls of layer 8 answer.
-/
import Derived.RegionTactic
import Derived.ChangeAlike
import Derived.BigQuiet
import Derived.Test.YtgfgmgekkmaipaaOnly
import Derived.Test.YtgfgmgekkmaipaaSlices
import Derived.Test.YtgfgmgekkmaipaaOpen
import Derived.Test.YtgfgmgekkmaipaaAnswers
import Derived.Test.YtgfgmgekkmaipaaPackPure
namespace Go.Proofs.Ytgfgmgekkmaipaa
open Go.ChangeAt Go.RowKit

def uv (x : Nat) : Value := .int .u64 (x : Int)
theorem uv_of_wf (zs : List Int) (h : ∀ n ∈ zs, (Lit.int .u64 n).wf = true) : zs.map (Value.int .u64) = (zs.map Int.toNat).map uv ∧ ∀ x ∈ zs.map Int.toNat, x < 2 ^ 64 := by
  constructor
  · rw [List.map_map]
    refine List.map_congr_left fun z hz => ?_
    have := bounds_u64 (h z hz)
    unfold uv
    simp only [Function.comp_apply]
    rw [Int.toNat_of_nonneg this.1]
  · intro x hx
    obtain ⟨z, hz, rfl⟩ := List.mem_map.1 hx
    have := bounds_u64 (h z hz)
    omega
theorem uv_oneCell (l : List Nat) : ∀ u ∈ l.map uv, u.oneCell' = true := by
  intro u hu
  obtain ⟨c, _, rfl⟩ := List.mem_map.1 hu
  rfl

/-- A call answers these numbers, of its own, and this error. -/
def AnsU (w : World) (r : List Nat × Int) (e : Ending) (w' : World) : Prop := ∃ v, e = .returned (.tuple #[v, .int .i64 r.2]) ∧ w'.ownsRow w.heap.size 47 1 v r.1.length (r.1.map uv) ∧ Ext w w'

end Go.Proofs.Ytgfgmgekkmaipaa
