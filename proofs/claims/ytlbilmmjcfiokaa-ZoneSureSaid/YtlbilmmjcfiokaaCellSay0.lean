/-
  The program's contracts of layer 4: truths, and how two values stand.
-/
import Derived.Test.YtlbilmmjcfiokaaPanics
import Derived.Test.YtlbilmmjcfiokaaSlices
import Derived.Test.YtlbilmmjcfiokaaCellRefE
import Derived.Test.YtlbilmmjcfiokaaCellAs
import Derived.Lib.Strings
import Derived.Lib.Bytealg
import Derived.Lib.Walk
namespace Go.Proofs.Ytlbilmmjcfiokaa
open Go.RowKit Go.BigFrame

/-! ### Truths -/

/-! ### The order -/

theorem pNaN_u8 (a : Int) (w : World) : Calls Try.prog 89 #[.int .u8 a] w fun e w' => e = .returned (.bool false) ∧ w' = w := by
  go_enter Try.func89, Try.ntmps89
  go_wp2_with fail
  go_ret
  exact ⟨rfl, rfl⟩
theorem pNaN_int (a : Int) (w : World) : Calls Try.prog 90 #[.int .i64 a] w fun e w' => e = .returned (.bool false) ∧ w' = w := by
  go_enter Try.func90, Try.ntmps90
  go_wp2_with fail
  go_ret
  exact ⟨rfl, rfl⟩

theorem pCompare_u8 (a b : Int) (w : World) :
    Calls Try.prog 73 #[.int .u8 a, .int .u8 b] w fun e w' => e = .returned (.int .i64 (cmpN a b)) ∧ w' = w := by
  have HA := Lib.hid (pNaN_u8 a)
  have HB := Lib.hid (pNaN_u8 b)
  unfold cmpN
  by_cases h : a = b
  · subst h
    rw [if_pos rfl]
    go_enter Try.func73, Try.ntmps73
    go_wp2_with fail
    refine (HA.out _).mono ?_
    rintro e w' ⟨rfl, rfl⟩
    go_wp2_with fail
    refine (HA.out _).mono ?_
    rintro e w' ⟨rfl, rfl⟩
    go_wp2_with fail
    go_ret
    exact ⟨rfl, rfl⟩
  · rw [if_neg h]
    by_cases h2 : a < b
    · have hd : decide (a < b) = true := decide_eq_true h2
      rw [if_pos h2]
      clear h h2
      go_enter Try.func73, Try.ntmps73
      go_wp2_with fail
      refine (HA.out _).mono ?_
      rintro e w' ⟨rfl, rfl⟩
      go_wp2_with fail
      refine (HB.out _).mono ?_
      rintro e w' ⟨rfl, rfl⟩
      go_wp2_with fail
      go_ret
      exact ⟨rfl, rfl⟩
    · have hd : decide (a < b) = false := decide_eq_false h2
      have hd2 : decide (b < a) = true := decide_eq_true (by omega)
      rw [if_neg h2]
      clear h h2
      go_enter Try.func73, Try.ntmps73
      go_wp2_with fail
      refine (HA.out _).mono ?_
      rintro e w' ⟨rfl, rfl⟩
      go_wp2_with fail
      refine (HB.out _).mono ?_
      rintro e w' ⟨rfl, rfl⟩
      go_wp2_with fail
      go_ret
      exact ⟨rfl, rfl⟩

theorem pCompare_int (a b : Int) (w : World) :
    Calls Try.prog 74 #[.int .i64 a, .int .i64 b] w fun e w' => e = .returned (.int .i64 (cmpN a b)) ∧ w' = w := by
  have HA := Lib.hid (pNaN_int a)
  have HB := Lib.hid (pNaN_int b)
  unfold cmpN
  by_cases h : a = b
  · subst h
    rw [if_pos rfl]
    go_enter Try.func74, Try.ntmps74
    go_wp2_with fail
    refine (HA.out _).mono ?_
    rintro e w' ⟨rfl, rfl⟩
    go_wp2_with fail
    refine (HA.out _).mono ?_
    rintro e w' ⟨rfl, rfl⟩
    go_wp2_with fail
    go_ret
    exact ⟨rfl, rfl⟩
  · rw [if_neg h]
    by_cases h2 : a < b
    · have hd : decide (a < b) = true := decide_eq_true h2
      rw [if_pos h2]
      clear h h2
      go_enter Try.func74, Try.ntmps74
      go_wp2_with fail
      refine (HA.out _).mono ?_
      rintro e w' ⟨rfl, rfl⟩
      go_wp2_with fail
      refine (HB.out _).mono ?_
      rintro e w' ⟨rfl, rfl⟩
      go_wp2_with fail
      go_ret
      exact ⟨rfl, rfl⟩
    · have hd : decide (a < b) = false := decide_eq_false h2
      have hd2 : decide (b < a) = true := decide_eq_true (by omega)
      rw [if_neg h2]
      clear h h2
      go_enter Try.func74, Try.ntmps74
      go_wp2_with fail
      refine (HA.out _).mono ?_
      rintro e w' ⟨rfl, rfl⟩
      go_wp2_with fail
      refine (HB.out _).mono ?_
      rintro e w' ⟨rfl, rfl⟩
      go_wp2_with fail
      go_ret
      exact ⟨rfl, rfl⟩

theorem compareBytes_eq : ∀ (a b : List UInt8), Lib.compareBytes a b = cmpB a b
  | [], [] => rfl
  | [], _ :: _ => rfl
  | _ :: _, [] => rfl
  | x :: a, y :: b => by
    have ih := compareBytes_eq a b
    unfold Lib.compareBytes
    rw [ih]
    unfold cmpB
    rw [show Op.bytesLess (x :: a) (y :: b) = (decide (x < y) || (x == y && Op.bytesLess a b)) by simp only [Op.bytesLess]]
    by_cases hxy : x = y
    · subst hxy
      have hn : ¬ x < x := by simp
      rw [if_neg hn, if_neg hn]
      simp [hn]
    · rw [if_neg (fun h : x :: a = y :: b => hxy (List.cons.inj h).1)]
      by_cases hl : x < y
      · simp [hl]
      · have hg : y < x := by
          rcases Nat.lt_or_ge y.toNat x.toNat with h | h
          · exact h
          · exact absurd (UInt8.toNat_inj.1 (Nat.le_antisymm h (Nat.le_of_not_lt hl))) hxy
        simp [hl, hg, hxy]

set_option maxRecDepth 100000 in
theorem pCompareString (a b : ByteArray) (w : World) :
    Calls Try.prog 91 #[.string a, .string b] w fun e w' => e = .returned (.int .i64 (Lib.compareBytes a.data.toList b.data.toList)) ∧ w' = w := by
  go_enter Try.func91, Try.ntmps91
  go_wp2
  rw [run_callFunc_extern Try.func96 (by kernel_rfl) (by kernel_rfl) (by kernel_rfl) (e := Extern.BytealgCompare.compare) (by kernel_rfl), Lib.run_compareString]
  simp only [Result.andThen]
  rw [Oper.upon_value]
  go_wp2
  go_ret
  exact ⟨rfl, rfl⟩

theorem pCompare_text (a b : List UInt8) (w : World) :
    Calls Try.prog 75 #[.string ⟨a.toArray⟩, .string ⟨b.toArray⟩] w fun e w' => e = .returned (.int .i64 (cmpB a b)) ∧ w' = w := by
  have HC := Lib.hid (fun w => pCompareString ⟨a.toArray⟩ ⟨b.toArray⟩ w)
  simp only [compareBytes_eq] at HC
  go_enter Try.func75, Try.ntmps75
  go_wp2_with fail
  refine (HC.out _).mono ?_
  rintro e w' ⟨rfl, rfl⟩
  go_wp2_with fail
  go_ret
  exact ⟨rfl, rfl⟩

end Go.Proofs.Ytlbilmmjcfiokaa
