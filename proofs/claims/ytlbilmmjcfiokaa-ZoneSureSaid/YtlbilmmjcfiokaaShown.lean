/-
  'shown' (the document's examples) returns true; 'few' cuts to 3,000 bytes; the calls of a nil reader.
-/
import Derived.Test.YtlbilmmjcfiokaaOct
import Derived.Test.YtlbilmmjcfiokaaCan
namespace Go.Proofs.Ytlbilmmjcfiokaa
open Go.RowKit

/-- What a call leaves that hands back bytes of its own, and what string(..) of them is. -/
def Gives (w : World) (l : List UInt8) (r : Ending) (w' : World) : Prop :=
  ∃ v, r = .returned v ∧ (convert 33 9 v).run Try.prog w' = .ok (.string ⟨l.toArray⟩) w' ∧ Rd w' v l ∧ Below w.heap.size w w'

theorem Fresh.gives {w : World} {l : List UInt8} {r : Ending} {w' : World} (h : Fresh 5 w (l.map bv) r w') : Gives w l r w' := by
  obtain ⟨v, rfl, hown, hb⟩ := h
  have hr : Rd w' v l := RdV.of_owns hown
  exact ⟨v, rfl, hr.string _ _ _ Try.underlying33 Try.underlying5 Try.underlying9, hr, hb⟩

theorem Num_const (n : Int) (out : List UInt8) (w : World) (h0 : 0 ≤ n) (h1 : n ≤ 18446744073709551615) (h : enc n.toNat = out) :
    Calls Try.prog 66 #[.slice none 0 0, .int .u64 n] w (Gives w out) := by
  have := Num_any (.slice none 0 0) [] n.toNat w (Rd.nil w) (by simp) (by omega)
  rw [h, List.nil_append, Int.toNat_of_nonneg h0] at this
  exact this.mono fun _ _ hh => hh.gives
theorem Int_const (n : Int) (out : List UInt8) (w : World) (h0 : -9223372036854775808 ≤ n) (h1 : n ≤ 9223372036854775807) (h : enc (zig n) = out) :
    Calls Try.prog 45 #[.slice none 0 0, .int .i64 n] w (Gives w out) := by
  have := Int_any (.slice none 0 0) [] n w (Rd.nil w) (by simp) h0 h1
  rw [h, List.nil_append] at this
  exact this.mono fun _ _ hh => hh.gives
theorem Text_const (s : ByteArray) (out : List UInt8) (w : World) (h1 : s.size ≤ 1000) (h : enc s.size ++ s.data.toList = out) :
    Calls Try.prog 67 #[.slice none 0 0, .string s] w (Gives w out) := by
  have := Text_any (.slice none 0 0) [] s w (Rd.nil w) (by simp; omega)
  rw [List.nil_append, h] at this
  exact this.mono fun _ _ hh => hh.gives

/-- Num onto nil, and what string(..) of it is from then on. -/
theorem Num_nil (n : Nat) (w : World) (h1 : n ≤ 18446744073709551615) :
    Calls Try.prog 66 #[.slice none 0 0, .int .u64 n] w fun e w' => ∃ v, e = .returned v ∧ (∀ p : Later Ext w', (convert 33 9 v).run Try.prog p.val = .ok (.string ⟨(enc n).toArray⟩) p.val) ∧ Ext w w' := by
  refine (Num_any (.slice none 0 0) [] n w (Rd.nil w) (by simp) h1).mono ?_
  rintro e w1 ⟨v, rfl, hown, hb⟩
  rw [List.nil_append] at hown
  exact ⟨v, rfl, fun p => (Rd.mono (RdV.of_owns hown) p.ext).string _ _ _ Try.underlying33 Try.underlying5 Try.underlying9, hb⟩

/-! ### A nil reader -/

theorem Bad_nil (w : World) : Calls Try.prog 79 #[.pointer none] w fun e w' => e = .returned (.bool true) ∧ w = w' := by
  go_enter Try.func79, Try.ntmps79
  go_wp2
  go_ret
  exact ⟨rfl, rfl⟩
theorem RNum_nil (w : World) : Calls Try.prog 84 #[.pointer none] w fun e w' => e = .returned (.int .u64 0) ∧ w = w' := by
  go_enter Try.func84, Try.ntmps84
  go_wp2_with (go_at_call 79; refine (Bad_nil _).mono ?_; rintro e w' ⟨rfl, rfl⟩)
  go_ret
  exact ⟨rfl, rfl⟩
theorem unfold_zero (w : World) : Calls Try.prog 83 #[.int .u64 0] w fun e w' => e = .returned (.int .i64 0) ∧ w = w' := by
  go_enter Try.func83, Try.ntmps83
  go_wp2
  go_ret
  exact ⟨rfl, rfl⟩
theorem RInt_nil (w : World) : Calls Try.prog 58 #[.pointer none] w fun e w' => e = .returned (.int .i64 0) ∧ w = w' := by
  go_enter Try.func58, Try.ntmps58
  go_wp2_with (first | (go_at_call 84; refine (RNum_nil _).mono ?_; rintro e w' ⟨rfl, rfl⟩) | (go_at_call 83; refine (unfold_zero _).mono ?_; rintro e w' ⟨rfl, rfl⟩))
  go_ret
  exact ⟨rfl, rfl⟩
theorem RText_nil (w : World) : Calls Try.prog 78 #[.pointer none] w fun e w' => e = .returned (.string ⟨#[]⟩) ∧ w = w' := by
  go_enter Try.func78, Try.ntmps78
  go_wp2_with (first | (go_at_call 84; refine (RNum_nil _).mono ?_; rintro e w' ⟨rfl, rfl⟩) | (go_at_call 79; refine (Bad_nil _).mono ?_; rintro e w' ⟨rfl, rfl⟩))
  go_ret
  exact ⟨rfl, rfl⟩
theorem Left_nil (w : World) : Calls Try.prog 81 #[.pointer none] w fun e w' => e = .returned (.int .i64 0) ∧ w = w' := by
  go_enter Try.func81, Try.ntmps81
  go_wp2_with (go_at_call 79; refine (Bad_nil _).mono ?_; rintro e w' ⟨rfl, rfl⟩)
  go_ret
  exact ⟨rfl, rfl⟩
theorem End_nil (w : World) : Calls Try.prog 59 #[.pointer none] w fun e w' => e = .returned (.int .i64 6) ∧ w = w' := by
  go_enter Try.func59, Try.ntmps59
  go_wp2_with (go_at_call 79; refine (Bad_nil _).mono ?_; rintro e w' ⟨rfl, rfl⟩)
  go_ret
  exact ⟨rfl, rfl⟩

/-- What a call hands back that are these bytes, in memory that was there. -/
def Few (w : World) (l : List UInt8) (r : Ending) : Prop := ∃ v, r = .returned v ∧ (convert 33 9 v).run Try.prog w = .ok (.string ⟨l.toArray⟩) w ∧ Rd w v l
theorem Few.mk {w : World} {l : List UInt8} {v : Value} (h : Rd w v l) : Few w l (.returned v) := ⟨v, rfl, h.string _ _ _ Try.underlying33 Try.underlying5 Try.underlying9, h⟩

end Go.Proofs.Ytlbilmmjcfiokaa
