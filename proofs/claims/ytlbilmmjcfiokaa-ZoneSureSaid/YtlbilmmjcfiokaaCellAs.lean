/-
  Assertions of a type (with two results) at a number, a text, a truth, nothing.
-/
import Derived.Test.YtlbilmmjcfiokaaCellRefE
namespace Go.Proofs.Ytlbilmmjcfiokaa
open Go.RowKit Go.BigFrame

theorem as_hit (u : Value) (w : World) : (Instr.typeAssert (.iface 4 u) 20 4 true).run Try.prog w = .ok (.tuple #[u, .bool true]) w ∧
    (Instr.typeAssert (.iface 3 u) 20 3 true).run Try.prog w = .ok (.tuple #[u, .bool true]) w ∧
    (Instr.typeAssert (.iface 9 u) 20 9 true).run Try.prog w = .ok (.tuple #[u, .bool true]) w := by
  simp [Instr.typeAssert, run_underlying Try.underlying4, run_underlying Try.underlying3, run_underlying Try.underlying9]

theorem as_miss (T : TypeId) (u : Value) (w : World) : (T ≠ 4 → (Instr.typeAssert (.iface T u) 20 4 true).run Try.prog w = .ok (.tuple #[.bool false, .bool false]) w) ∧
    (T ≠ 3 → (Instr.typeAssert (.iface T u) 20 3 true).run Try.prog w = .ok (.tuple #[.int .i64 0, .bool false]) w) ∧
    (T ≠ 9 → (Instr.typeAssert (.iface T u) 20 9 true).run Try.prog w = .ok (.tuple #[.string ⟨#[]⟩, .bool false]) w) := by
  refine ⟨fun h => ?_, fun h => ?_, fun h => ?_⟩ <;>
  simp [Instr.typeAssert, run_underlying Try.underlying4, run_underlying Try.underlying3, run_underlying Try.underlying9, Try.zeroValue4, Try.zeroValue3, Try.zeroValue9, h]

theorem as_nil (w : World) : (Instr.typeAssert .nilIface 20 4 true).run Try.prog w = .ok (.tuple #[.bool false, .bool false]) w ∧
    (Instr.typeAssert .nilIface 20 3 true).run Try.prog w = .ok (.tuple #[.int .i64 0, .bool false]) w ∧
    (Instr.typeAssert .nilIface 20 9 true).run Try.prog w = .ok (.tuple #[.string ⟨#[]⟩, .bool false]) w := by
  refine ⟨?_, ?_, ?_⟩ <;>
  simp [Instr.typeAssert, run_underlying Try.underlying4, run_underlying Try.underlying3, run_underlying Try.underlying9, Try.zeroValue4, Try.zeroValue3, Try.zeroValue9]

end Go.Proofs.Ytlbilmmjcfiokaa
