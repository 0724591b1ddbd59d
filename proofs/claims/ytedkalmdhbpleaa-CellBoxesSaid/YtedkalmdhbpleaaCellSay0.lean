/-
  The program's contracts of layer 4: truths, and how two values stand.
-/
import Derived.Test.YtedkalmdhbpleaaPanics
import Derived.Test.YtedkalmdhbpleaaSlices
import Derived.Test.YtedkalmdhbpleaaCellRefE
import Derived.Test.YtedkalmdhbpleaaCellAs
import Derived.Lib.Strings
import Derived.Lib.Bytealg
import Derived.Lib.Walk
namespace Go.Proofs.Ytedkalmdhbpleaa
open Go.RowKit Go.BigFrame

/-! ### Truths -/

theorem pKnown_any (a : Int) (ha : 0 ≤ a ∧ a ≤ 255) (w : World) :
    Calls Try.prog 49 #[.int .u8 a] w fun e w' => e = .returned (.int .u8 (tr a)) ∧ w' = w := by
  obtain ⟨h0, h1⟩ := ha
  unfold tr
  by_cases h : 2 < a
  · have hd : decide (2 < a) = true := decide_eq_true h
    rw [if_pos h]
    clear h
    go_enter Try.func49, Try.ntmps49
    go_wp2_with fail
    go_ret
    exact ⟨rfl, rfl⟩
  · have hd : decide (2 < a) = false := decide_eq_false h
    rw [if_neg h]
    clear h
    go_enter Try.func49, Try.ntmps49
    go_wp2_with fail
    go_ret
    exact ⟨rfl, rfl⟩

theorem And_any (a b : Int) (ha : 0 ≤ a ∧ a ≤ 255) (hb : 0 ≤ b ∧ b ≤ 255) (w : World) :
    Calls Try.prog 19 #[.int .u8 a, .int .u8 b] w fun e w' => e = .returned (.int .u8 (andT a b)) ∧ Ext w w' := by
  unfold andT
  have HA := Lib.hid (pKnown_any a ha)
  have HB := Lib.hid (pKnown_any b hb)
  clear ha hb
  generalize tr a = x at HA ⊢
  generalize tr b = y at HB ⊢
  go_enter Try.func19, Try.ntmps19
  go_wp2_with fail
  refine (HA.out _).mono ?_
  rintro e w' ⟨rfl, rfl⟩
  go_wp2_with fail
  refine (HB.out _).mono ?_
  rintro e w' ⟨rfl, rfl⟩
  go_wp2_with fail
  go_ret
  exact ⟨rfl, by first | exact Ext.keeps.refl _ | exact Ext.drew _⟩

theorem Or_any (a b : Int) (ha : 0 ≤ a ∧ a ≤ 255) (hb : 0 ≤ b ∧ b ≤ 255) (w : World) :
    Calls Try.prog 21 #[.int .u8 a, .int .u8 b] w fun e w' => e = .returned (.int .u8 (orT a b)) ∧ Ext w w' := by
  unfold orT
  have HA := Lib.hid (pKnown_any a ha)
  have HB := Lib.hid (pKnown_any b hb)
  clear ha hb
  generalize tr a = x at HA ⊢
  generalize tr b = y at HB ⊢
  go_enter Try.func21, Try.ntmps21
  go_wp2_with fail
  refine (HA.out _).mono ?_
  rintro e w' ⟨rfl, rfl⟩
  go_wp2_with fail
  refine (HB.out _).mono ?_
  rintro e w' ⟨rfl, rfl⟩
  go_wp2_with fail
  go_ret
  exact ⟨rfl, by first | exact Ext.keeps.refl _ | exact Ext.drew _⟩

theorem Not_any (a : Int) (ha : 0 ≤ a ∧ a ≤ 255) (w : World) :
    Calls Try.prog 23 #[.int .u8 a] w fun e w' => e = .returned (.int .u8 (notT a)) ∧ Ext w w' := by
  unfold notT
  have HA := Lib.hid (pKnown_any a ha)
  have ta := tr_three ha.1
  clear ha
  generalize tr a = x at HA ta ⊢
  have h0 : 0 ≤ x := by omega
  have h2 : x ≤ 2 := by omega
  clear ta
  go_enter Try.func23, Try.ntmps23
  go_wp2_with fail
  refine (HA.out _).mono ?_
  rintro e w' ⟨rfl, rfl⟩
  go_wp2_with fail
  go_ret
  exact ⟨rfl, Ext.keeps.refl _⟩

/-! ### The order -/

theorem pNaN_u8 (a : Int) (w : World) : Calls Try.prog 69 #[.int .u8 a] w fun e w' => e = .returned (.bool false) ∧ w' = w := by
  go_enter Try.func69, Try.ntmps69
  go_wp2_with fail
  go_ret
  exact ⟨rfl, rfl⟩
theorem pNaN_int (a : Int) (w : World) : Calls Try.prog 70 #[.int .i64 a] w fun e w' => e = .returned (.bool false) ∧ w' = w := by
  go_enter Try.func70, Try.ntmps70
  go_wp2_with fail
  go_ret
  exact ⟨rfl, rfl⟩

theorem pCompare_u8 (a b : Int) (w : World) :
    Calls Try.prog 43 #[.int .u8 a, .int .u8 b] w fun e w' => e = .returned (.int .i64 (cmpN a b)) ∧ w' = w := by
  have HA := Lib.hid (pNaN_u8 a)
  have HB := Lib.hid (pNaN_u8 b)
  unfold cmpN
  by_cases h : a = b
  · subst h
    rw [if_pos rfl]
    go_enter Try.func43, Try.ntmps43
    go_wp2_with fail
    refine (HA.out _).mono ?_
    rintro e w' ⟨rfl, rfl⟩
    go_wp2_with fail
    refine (HA.out _).mono ?_
    rintro e w' ⟨rfl, rfl⟩
    go_wp2_with fail
    go_ret
    exact ⟨rfl, rfl⟩
  · rw [if_neg h]
    by_cases h2 : a < b
    · have hd : decide (a < b) = true := decide_eq_true h2
      rw [if_pos h2]
      clear h h2
      go_enter Try.func43, Try.ntmps43
      go_wp2_with fail
      refine (HA.out _).mono ?_
      rintro e w' ⟨rfl, rfl⟩
      go_wp2_with fail
      refine (HB.out _).mono ?_
      rintro e w' ⟨rfl, rfl⟩
      go_wp2_with fail
      go_ret
      exact ⟨rfl, rfl⟩
    · have hd : decide (a < b) = false := decide_eq_false h2
      have hd2 : decide (b < a) = true := decide_eq_true (by omega)
      rw [if_neg h2]
      clear h h2
      go_enter Try.func43, Try.ntmps43
      go_wp2_with fail
      refine (HA.out _).mono ?_
      rintro e w' ⟨rfl, rfl⟩
      go_wp2_with fail
      refine (HB.out _).mono ?_
      rintro e w' ⟨rfl, rfl⟩
      go_wp2_with fail
      go_ret
      exact ⟨rfl, rfl⟩

theorem pCompare_int (a b : Int) (w : World) :
    Calls Try.prog 44 #[.int .i64 a, .int .i64 b] w fun e w' => e = .returned (.int .i64 (cmpN a b)) ∧ w' = w := by
  have HA := Lib.hid (pNaN_int a)
  have HB := Lib.hid (pNaN_int b)
  unfold cmpN
  by_cases h : a = b
  · subst h
    rw [if_pos rfl]
    go_enter Try.func44, Try.ntmps44
    go_wp2_with fail
    refine (HA.out _).mono ?_
    rintro e w' ⟨rfl, rfl⟩
    go_wp2_with fail
    refine (HA.out _).mono ?_
    rintro e w' ⟨rfl, rfl⟩
    go_wp2_with fail
    go_ret
    exact ⟨rfl, rfl⟩
  · rw [if_neg h]
    by_cases h2 : a < b
    · have hd : decide (a < b) = true := decide_eq_true h2
      rw [if_pos h2]
      clear h h2
      go_enter Try.func44, Try.ntmps44
      go_wp2_with fail
      refine (HA.out _).mono ?_
      rintro e w' ⟨rfl, rfl⟩
      go_wp2_with fail
      refine (HB.out _).mono ?_
      rintro e w' ⟨rfl, rfl⟩
      go_wp2_with fail
      go_ret
      exact ⟨rfl, rfl⟩
    · have hd : decide (a < b) = false := decide_eq_false h2
      have hd2 : decide (b < a) = true := decide_eq_true (by omega)
      rw [if_neg h2]
      clear h h2
      go_enter Try.func44, Try.ntmps44
      go_wp2_with fail
      refine (HA.out _).mono ?_
      rintro e w' ⟨rfl, rfl⟩
      go_wp2_with fail
      refine (HB.out _).mono ?_
      rintro e w' ⟨rfl, rfl⟩
      go_wp2_with fail
      go_ret
      exact ⟨rfl, rfl⟩

theorem compareBytes_eq : ∀ (a b : List UInt8), Lib.compareBytes a b = cmpB a b
  | [], [] => rfl
  | [], _ :: _ => rfl
  | _ :: _, [] => rfl
  | x :: a, y :: b => by
    have ih := compareBytes_eq a b
    unfold Lib.compareBytes
    rw [ih]
    unfold cmpB
    rw [show Op.bytesLess (x :: a) (y :: b) = (decide (x < y) || (x == y && Op.bytesLess a b)) by simp only [Op.bytesLess]]
    by_cases hxy : x = y
    · subst hxy
      have hn : ¬ x < x := by simp
      rw [if_neg hn, if_neg hn]
      simp [hn]
    · rw [if_neg (fun h : x :: a = y :: b => hxy (List.cons.inj h).1)]
      by_cases hl : x < y
      · simp [hl]
      · have hg : y < x := by
          rcases Nat.lt_or_ge y.toNat x.toNat with h | h
          · exact h
          · exact absurd (UInt8.toNat_inj.1 (Nat.le_antisymm h (Nat.le_of_not_lt hl))) hxy
        simp [hl, hg, hxy]

set_option maxRecDepth 100000 in
theorem pCompareString (a b : ByteArray) (w : World) :
    Calls Try.prog 71 #[.string a, .string b] w fun e w' => e = .returned (.int .i64 (Lib.compareBytes a.data.toList b.data.toList)) ∧ w' = w := by
  go_enter Try.func71, Try.ntmps71
  go_wp2
  rw [run_callFunc_extern Try.func85 (by kernel_rfl) (by kernel_rfl) (by kernel_rfl) (e := Extern.BytealgCompare.compare) (by kernel_rfl), Lib.run_compareString]
  simp only [Result.andThen]
  rw [Oper.upon_value]
  go_wp2
  go_ret
  exact ⟨rfl, rfl⟩

theorem pCompare_text (a b : List UInt8) (w : World) :
    Calls Try.prog 45 #[.string ⟨a.toArray⟩, .string ⟨b.toArray⟩] w fun e w' => e = .returned (.int .i64 (cmpB a b)) ∧ w' = w := by
  have HC := Lib.hid (fun w => pCompareString ⟨a.toArray⟩ ⟨b.toArray⟩ w)
  simp only [compareBytes_eq] at HC
  go_enter Try.func45, Try.ntmps45
  go_wp2_with fail
  refine (HC.out _).mono ?_
  rintro e w' ⟨rfl, rfl⟩
  go_wp2_with fail
  go_ret
  exact ⟨rfl, rfl⟩

end Go.Proofs.Ytedkalmdhbpleaa
