/-
  'shown' (the document's examples) returns true; 'few' cuts to 3,000 bytes; the calls of a nil reader.
-/
import Derived.Test.YtmlflicjebjdaaaOct
import Derived.Test.YtmlflicjebjdaaaCan
namespace Go.Proofs.Ytmlflicjebjdaaa
open Go.RowKit

/-- What a call leaves that hands back bytes of its own, and what string(..) of them is. -/
def Gives (w : World) (l : List UInt8) (r : Ending) (w' : World) : Prop :=
  ∃ v, r = .returned v ∧ (convert 22 9 v).run Try.prog w' = .ok (.string ⟨l.toArray⟩) w' ∧ Rd w' v l ∧ Below w.heap.size w w'

theorem Fresh.gives {w : World} {l : List UInt8} {r : Ending} {w' : World} (h : Fresh 5 w (l.map bv) r w') : Gives w l r w' := by
  obtain ⟨v, rfl, hown, hb⟩ := h
  have hr : Rd w' v l := RdV.of_owns hown
  exact ⟨v, rfl, hr.string _ _ _ Try.underlying22 Try.underlying5 Try.underlying9, hr, hb⟩

theorem Num_const (n : Int) (out : List UInt8) (w : World) (h0 : 0 ≤ n) (h1 : n ≤ 18446744073709551615) (h : enc n.toNat = out) :
    Calls Try.prog 11 #[.slice none 0 0, .int .u64 n] w (Gives w out) := by
  have := Num_any (.slice none 0 0) [] n.toNat w (Rd.nil w) (by simp) (by omega)
  rw [h, List.nil_append, Int.toNat_of_nonneg h0] at this
  exact this.mono fun _ _ hh => hh.gives
theorem Int_const (n : Int) (out : List UInt8) (w : World) (h0 : -9223372036854775808 ≤ n) (h1 : n ≤ 9223372036854775807) (h : enc (zig n) = out) :
    Calls Try.prog 12 #[.slice none 0 0, .int .i64 n] w (Gives w out) := by
  have := Int_any (.slice none 0 0) [] n w (Rd.nil w) (by simp) h0 h1
  rw [h, List.nil_append] at this
  exact this.mono fun _ _ hh => hh.gives
theorem Text_const (s : ByteArray) (out : List UInt8) (w : World) (h1 : s.size ≤ 1000) (h : enc s.size ++ s.data.toList = out) :
    Calls Try.prog 13 #[.slice none 0 0, .string s] w (Gives w out) := by
  have := Text_any (.slice none 0 0) [] s w (Rd.nil w) (by simp; omega)
  rw [List.nil_append, h] at this
  exact this.mono fun _ _ hh => hh.gives

set_option maxRecDepth 100000 in
set_option maxHeartbeats 1000000 in
theorem shown_any (w : World) : Calls Try.prog 9 #[] w fun e w' => e = .returned (.bool true) ∧ Below w.heap.size w w' := by
  go_enter Try.func9, Try.ntmps9
  go_wp2_with fail
  refine (Num_const 5 [5] _ (by omega) (by omega) (by decide +kernel)).mono ?_
  rintro e w1 ⟨v1, rfl, hc1, -, hb1⟩
  go_wp2_with fail
  refine (Num_const 247 [247] _ (by omega) (by omega) (by decide +kernel)).mono ?_
  rintro e w2 ⟨v2, rfl, hc2, -, hb2⟩
  clear hc1
  go_wp2_with fail
  refine (Num_const 248 [248, 248] _ (by omega) (by omega) (by decide +kernel)).mono ?_
  rintro e w3 ⟨v3, rfl, hc3, -, hb3⟩
  clear hc2
  go_wp2_with fail
  refine (Num_const 256 [249, 1, 0] _ (by omega) (by omega) (by decide +kernel)).mono ?_
  rintro e w4 ⟨v4, rfl, hc4, -, hb4⟩
  clear hc3
  go_wp2_with fail
  refine (Int_const (-1) [1] _ (by omega) (by omega) (by decide +kernel)).mono ?_
  rintro e w5 ⟨v5, rfl, hc5, -, hb5⟩
  clear hc4
  go_wp2_with fail
  refine (Int_const 1 [2] _ (by omega) (by omega) (by decide +kernel)).mono ?_
  rintro e w6 ⟨v6, rfl, hc6, -, hb6⟩
  clear hc5
  go_wp2_with fail
  refine (Text_const ⟨#[97, 98]⟩ [2, 97, 98] _ (by decide) (by decide +kernel)).mono ?_
  rintro e w7 ⟨v7, rfl, hc7, -, hb7⟩
  clear hc6
  go_wp2_with fail
  go_ret
  refine ⟨rfl, ?_⟩
  have s1 := hb1.size
  have s2 := hb2.size
  have s3 := hb3.size
  have s4 := hb4.size
  have s5 := hb5.size
  have s6 := hb6.size
  exact hb1.trans ((hb2.mono (by omega)).trans ((hb3.mono (by omega)).trans ((hb4.mono (by omega)).trans ((hb5.mono (by omega)).trans ((hb6.mono (by omega)).trans (hb7.mono (by omega)))))))

/-- Num onto nil, and what string(..) of it is from then on. -/
theorem Num_nil (n : Nat) (w : World) (h1 : n ≤ 18446744073709551615) :
    Calls Try.prog 11 #[.slice none 0 0, .int .u64 n] w fun e w' => ∃ v, e = .returned v ∧ (∀ p : Later Ext w', (convert 22 9 v).run Try.prog p.val = .ok (.string ⟨(enc n).toArray⟩) p.val) ∧ Ext w w' := by
  refine (Num_any (.slice none 0 0) [] n w (Rd.nil w) (by simp) h1).mono ?_
  rintro e w1 ⟨v, rfl, hown, hb⟩
  rw [List.nil_append] at hown
  exact ⟨v, rfl, fun p => (Rd.mono (RdV.of_owns hown) p.ext).string _ _ _ Try.underlying22 Try.underlying5 Try.underlying9, hb⟩

/-! ### A nil reader -/

theorem Bad_nil (w : World) : Calls Try.prog 24 #[.pointer none] w fun e w' => e = .returned (.bool true) ∧ w = w' := by
  go_enter Try.func24, Try.ntmps24
  go_wp2
  go_ret
  exact ⟨rfl, rfl⟩
theorem RNum_nil (w : World) : Calls Try.prog 18 #[.pointer none] w fun e w' => e = .returned (.int .u64 0) ∧ w = w' := by
  go_enter Try.func18, Try.ntmps18
  go_wp2_with (go_at_call 24; refine (Bad_nil _).mono ?_; rintro e w' ⟨rfl, rfl⟩)
  go_ret
  exact ⟨rfl, rfl⟩
theorem unfold_zero (w : World) : Calls Try.prog 36 #[.int .u64 0] w fun e w' => e = .returned (.int .i64 0) ∧ w = w' := by
  go_enter Try.func36, Try.ntmps36
  go_wp2
  go_ret
  exact ⟨rfl, rfl⟩
theorem RInt_nil (w : World) : Calls Try.prog 20 #[.pointer none] w fun e w' => e = .returned (.int .i64 0) ∧ w = w' := by
  go_enter Try.func20, Try.ntmps20
  go_wp2_with (first | (go_at_call 18; refine (RNum_nil _).mono ?_; rintro e w' ⟨rfl, rfl⟩) | (go_at_call 36; refine (unfold_zero _).mono ?_; rintro e w' ⟨rfl, rfl⟩))
  go_ret
  exact ⟨rfl, rfl⟩
theorem RText_nil (w : World) : Calls Try.prog 22 #[.pointer none] w fun e w' => e = .returned (.string ⟨#[]⟩) ∧ w = w' := by
  go_enter Try.func22, Try.ntmps22
  go_wp2_with (first | (go_at_call 18; refine (RNum_nil _).mono ?_; rintro e w' ⟨rfl, rfl⟩) | (go_at_call 24; refine (Bad_nil _).mono ?_; rintro e w' ⟨rfl, rfl⟩))
  go_ret
  exact ⟨rfl, rfl⟩
theorem Left_nil (w : World) : Calls Try.prog 25 #[.pointer none] w fun e w' => e = .returned (.int .i64 0) ∧ w = w' := by
  go_enter Try.func25, Try.ntmps25
  go_wp2_with (go_at_call 24; refine (Bad_nil _).mono ?_; rintro e w' ⟨rfl, rfl⟩)
  go_ret
  exact ⟨rfl, rfl⟩
theorem End_nil (w : World) : Calls Try.prog 26 #[.pointer none] w fun e w' => e = .returned (.int .i64 6) ∧ w = w' := by
  go_enter Try.func26, Try.ntmps26
  go_wp2_with (go_at_call 24; refine (Bad_nil _).mono ?_; rintro e w' ⟨rfl, rfl⟩)
  go_ret
  exact ⟨rfl, rfl⟩

/-- What a call hands back that are these bytes, in memory that was there. -/
def Few (w : World) (l : List UInt8) (r : Ending) : Prop := ∃ v, r = .returned v ∧ (convert 22 9 v).run Try.prog w = .ok (.string ⟨l.toArray⟩) w ∧ Rd w v l
theorem Few.mk {w : World} {l : List UInt8} {v : Value} (h : Rd w v l) : Few w l (.returned v) := ⟨v, rfl, h.string _ _ _ Try.underlying22 Try.underlying5 Try.underlying9, h⟩

/-- few: the first 3,000 bytes. -/
theorem few_any (v : Value) (l : List UInt8) (w : World) (hr : Rd w v l) : Calls Try.prog 10 #[v] w fun e w' => Few w (l.take 3000) e ∧ w = w' := by
  rcases hr with ⟨rfl, h2⟩ | ⟨x, cap, rfl, h2, h3, h4⟩
  · have : l = [] := by simpa using h2
    subst this
    go_enter Try.func10, Try.ntmps10
    go_wp2
    go_ret
    exact ⟨Few.mk (Rd.nil w), rfl⟩
  · have HC := Lib.hid (RdV.takes h2 h3 h4 3000 (min (((l.map bv).length : Nat) : Int) 3000).toNat (by omega))
    rw [← List.map_take] at HC
    obtain ⟨L, hL⟩ : ∃ L, L = (l.map bv).length := ⟨_, rfl⟩
    rw [← hL] at h2 HC ⊢
    clear h4 hL
    unfold maxLen at h3
    go_enter Try.func10, Try.ntmps10
    go_wp2
    go_ret
    exact ⟨Few.mk HC.out, rfl⟩


end Go.Proofs.Ytmlflicjebjdaaa
