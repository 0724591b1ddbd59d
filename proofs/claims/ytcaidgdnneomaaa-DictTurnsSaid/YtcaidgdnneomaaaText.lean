/-
  Texts as values: lists of bytes. Over any program.
-/
import Derived.Sort.Walk0
import Derived.Test.YtcaidgdnneomaaaHead
namespace Go.Proofs.Ytcaidgdnneomaaa
open Go.RowKit

/-- A text as a value. -/
def tv (l : List UInt8) : Value := .string ⟨l.toArray⟩
theorem tv_oneCell (ls : List (List UInt8)) : ∀ u ∈ ls.map tv, u.oneCell' = true := by
  intro u hu
  obtain ⟨c, _, rfl⟩ := List.mem_map.1 hu
  rfl
theorem tv_data (s : ByteArray) : tv s.data.toList = .string s := rfl
theorem tv_inj {a b : List UInt8} (h : tv a = tv b) : a = b := by
  simp only [tv, Value.string.injEq, ByteArray.mk.injEq] at h
  exact congrArg Array.toList h
theorem tv_map (ss : List ByteArray) : (ss.map (·.data.toList)).map tv = ss.map Value.string := by
  rw [List.map_map]
  rfl
theorem tcut_take (l : List UInt8) (k : Nat) : (⟨l.toArray⟩ : ByteArray).extract 0 k = ⟨(l.take k).toArray⟩ := by
  apply ByteArray.ext
  simp [ByteArray.data_extract]
theorem tcut_drop (l : List UInt8) (k : Nat) : (⟨l.toArray⟩ : ByteArray).extract k l.length = ⟨(l.drop k).toArray⟩ := by
  apply ByteArray.ext
  simp only [ByteArray.data_extract, List.extract_toArray, List.extract_eq_take_drop]
  rw [List.take_of_length_le (by rw [List.length_drop]; omega)]
theorem tjoin (x y : List UInt8) : (⟨x.toArray⟩ : ByteArray) ++ ⟨y.toArray⟩ = ⟨(x ++ y).toArray⟩ := by
  apply ByteArray.ext
  simp [ByteArray.data_append]
theorem tless_iff (a b : List UInt8) : Op.bytesLess a b = true ↔ a < b := by rw [bytesLess_eq]; simp
theorem tless_dec (a b : List UInt8) : Op.bytesLess a b = decide (a < b) := by
  rw [Bool.eq_iff_iff, tless_iff, decide_eq_true_iff]
theorem tless_irrefl (a : List UInt8) : ¬ a < a := List.lt_irrefl a
theorem tless_asymm {a b : List UInt8} (h : a < b) : ¬ b < a := List.not_lt.2 (List.le_of_lt h)
theorem tless_three (a b : List UInt8) : a < b ∨ a = b ∨ b < a := by
  rcases Classical.em (a < b) with h | h
  · exact .inl h
  · rcases Classical.em (b < a) with h' | h'
    · exact .inr (.inr h')
    · exact .inr (.inl (List.le_antisymm (List.not_lt.1 h') (List.not_lt.1 h)))
theorem tless_trans {a b c : List UInt8} (h : a < b) (h' : b < c) : a < c := List.lt_trans h h'

theorem Try.info_text : (Try.prog.info? 9).map (fun i => (i.zero, i.size, i.bytes)) = some (some (.string ByteArray.empty), 1, 16) := by kernel_rfl

end Go.Proofs.Ytcaidgdnneomaaa
