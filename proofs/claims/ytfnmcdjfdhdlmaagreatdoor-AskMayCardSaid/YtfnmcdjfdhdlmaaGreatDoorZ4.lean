/-
  Texts of this proof, merged: AskP1, AskJudge, Panics, CellRefE, CellAs, CellSay0, CellSay1, CellPutKit, Oct, Ref.
-/
import Derived.WalkKit
import Derived.Laws.Pointers
import Derived.Defers
import Derived.Recover
import Derived.Lib.Strings
import Derived.Lib.Bytealg
import Derived.Lib.Walk
import Derived.Laws.AppendOwnNone
import Derived.Lib.Small
import Derived.Lib.AppendStr
import Derived.Test.YtfnmcdjfdhdlmaaGreatDoorZ3
import Derived.Test.YtfnmcdjfdhdlmaaGreatDoorZ2
import Derived.Test.YtfnmcdjfdhdlmaaGreatDoorProg
import Derived.Test.YtfnmcdjfdhdlmaaGreatDoorZ1
/-
  The program's contracts of conditions: how many parts, one node with its parts.
-/
namespace Go.Proofs.YtfnmcdjfdhdlmaaGreatDoor
open Go.RowKit Go.BigFrame

set_option maxRecDepth 100000 in
theorem pOfColumn_any (n : Nd) (w : World) : Calls Tryz.prog 46 #[n.val] w fun e w' => e = .returned (.bool (colN n)) ∧ Ext w w' := by
  obtain ⟨o, c, k, ⟨vk, vn, vs⟩⟩ := n
  unfold Nd.val
  simp only
  have HX := Lib.hid (ext_new w (.cells #[.int .u8 o, .int .i64 c, .int .i64 k, .int .u8 vk, .int .i64 vn, .string ⟨vs.toArray⟩] 38))
  by_cases h : 5 ≤ o ∧ o ≤ 8
  · have HQ := Lib.hid (show colN ⟨o, c, k, ⟨vk, vn, vs⟩⟩ = true from decide_eq_true h)
    have h' : o = 5 ∨ o = 6 ∨ o = 7 ∨ o = 8 := by omega
    clear h
    rw [HQ.out]
    rcases h' with rfl | rfl | rfl | rfl <;> (
      go_enter Tryz.func46, Tryz.ntmps46
      go_wp2_with fail
      go_ret
      exact ⟨rfl, HX.out⟩)
  · have HQ := Lib.hid (show colN ⟨o, c, k, ⟨vk, vn, vs⟩⟩ = false from decide_eq_false h)
    have q5 : (o == (5 : Int)) = false := beq_eq_false_iff_ne.2 (by omega)
    have q6 : (o == (6 : Int)) = false := beq_eq_false_iff_ne.2 (by omega)
    have q7 : (o == (7 : Int)) = false := beq_eq_false_iff_ne.2 (by omega)
    have q8 : (o == (8 : Int)) = false := beq_eq_false_iff_ne.2 (by omega)
    clear h
    rw [HQ.out]
    go_enter Tryz.func46, Tryz.ntmps46
    go_wp2_with fail
    go_ret
    exact ⟨rfl, HX.out⟩

theorem in_any (N : Nat) (i : Int) (w : World) : Calls Tryz.prog 18 #[.int .i64 N, .int .i64 i] w fun e w' => e = .returned (.bool (decide (0 ≤ i ∧ i < (N : Int)))) ∧ w = w' := by
  by_cases h0 : 0 ≤ i
  · obtain ⟨j, rfl⟩ := Int.eq_ofNat_of_zero_le h0
    have d0 : decide ((0 : Int) ≤ (j : Int)) = true := decide_eq_true (by omega)
    by_cases h1 : j < N
    · have HQ := Lib.hid (show decide ((0 : Int) ≤ (j : Int) ∧ (j : Int) < (N : Int)) = true from decide_eq_true ⟨by omega, by omega⟩)
      have d1 : decide (j < N) = true := decide_eq_true h1
      rw [HQ.out]
      clear h0 h1
      go_enter Tryz.func18, Tryz.ntmps18
      go_wp2_with fail
      go_ret
      exact ⟨rfl, rfl⟩
    · have HQ := Lib.hid (show decide ((0 : Int) ≤ (j : Int) ∧ (j : Int) < (N : Int)) = false from decide_eq_false (by omega))
      have d1 : decide (j < N) = false := decide_eq_false h1
      rw [HQ.out]
      clear h0 h1
      go_enter Tryz.func18, Tryz.ntmps18
      go_wp2_with fail
      go_ret
      exact ⟨rfl, rfl⟩
  · have HQ := Lib.hid (show decide (0 ≤ i ∧ i < (N : Int)) = false from decide_eq_false (by omega))
    have d0 : decide ((0 : Int) ≤ i) = false := decide_eq_false h0
    rw [HQ.out]
    clear h0
    go_enter Tryz.func18, Tryz.ntmps18
    go_wp2_with fail
    go_ret
    exact ⟨rfl, rfl⟩

theorem ext_two' {w w' : World} {o : Obj} (h : Ext (w.alloc o) w') : Ext w w' := Ext.trans (ext_new w o) h

set_option maxRecDepth 100000 in
theorem pOperands_any (n : Nd) (w : World) : Calls Tryz.prog 44 #[n.val] w fun e w' => e = .returned (.tuple #[.int .i64 (manyI n), .bool (okN n)]) ∧ Ext w w' := by
  have HC := Lib.hid (pOfColumn_any n)
  obtain ⟨o, c, k, ⟨vk, vn, vs⟩⟩ := n
  have HB := Lib.hid (Blk.new w [.int .u8 o, .int .i64 c, .int .i64 k, .int .u8 vk, .int .i64 vn, .string ⟨vs.toArray⟩] 38)
  have HX := Lib.hid (ext_new w (.cells #[.int .u8 o, .int .i64 c, .int .i64 k, .int .u8 vk, .int .i64 vn, .string ⟨vs.toArray⟩] 38))
  unfold Nd.val at HC ⊢
  simp only at HC ⊢
  by_cases h1 : o = 1
  · subst h1
    clear HC
    go_enter Tryz.func44, Tryz.ntmps44
    go_wp2_with fail
    go_ret2
    exact ⟨by simp [manyI, okN], HX.out⟩
  · have q1 : (o == (1 : Int)) = false := beq_eq_false_iff_ne.2 h1
    by_cases hc : 5 ≤ o ∧ o ≤ 8
    · have HQ := Lib.hid (show colN ⟨o, c, k, ⟨vk, vn, vs⟩⟩ = true from decide_eq_true hc)
      have HR := Lib.hid (show manyI ⟨o, c, k, ⟨vk, vn, vs⟩⟩ = 0 ∧ okN ⟨o, c, k, ⟨vk, vn, vs⟩⟩ = true from ⟨by unfold manyI; rw [if_neg (show ¬ o = 4 by omega), if_neg (show ¬ (o = 2 ∨ o = 3) by omega)], decide_eq_true (.inr (.inr (.inl hc)))⟩)
      rw [HQ.out] at HC
      rw [HR.out.1, HR.out.2]
      clear h1 hc
      go_enter Tryz.func44, Tryz.ntmps44
      go_wp2_with fail
      refine (HC.out _).mono ?_
      rintro e w1 ⟨rfl, hx⟩
      have HX2 := Lib.hid (Ext.trans HX.out hx)
      clear hx
      go_wp2_with fail
      go_ret2
      exact ⟨rfl, HX2.out⟩
    · have HQ := Lib.hid (show colN ⟨o, c, k, ⟨vk, vn, vs⟩⟩ = false from decide_eq_false hc)
      rw [HQ.out] at HC
      go_enter Tryz.func44, Tryz.ntmps44
      have H0 := Lib.hid (And.intro h1 hc)
      clear h1 hc
      go_wp2_with fail
      refine (HC.out _).mono ?_
      rintro e w1 ⟨rfl, hx⟩
      have HB2 := Lib.hid (HB.out.ext hx)
      have HX2 := Lib.hid (Ext.trans HX.out hx)
      clear hx
      have e0 : w1.cell? ⟨w.heap.size, 0, none⟩ = some (.int .u8 o) := HB2.out.cell 0 _ rfl
      have e2 : w1.cell? ⟨w.heap.size, 2, none⟩ = some (.int .i64 k) := HB2.out.cell 2 _ rfl
      by_cases h4 : o = 4
      · subst h4
        go_wp2_with fail
        go_ret2
        exact ⟨by simp [manyI, okN], HX2.out⟩
      · have q4 : (o == (4 : Int)) = false := beq_eq_false_iff_ne.2 h4
        by_cases h23 : o = 2 ∨ o = 3
        · by_cases hk : 1 ≤ k
          · have d1 : decide ((1 : Int) ≤ k) = true := decide_eq_true hk
            by_cases hk2 : k ≤ 40
            · have d2 : decide (k ≤ (40 : Int)) = true := decide_eq_true hk2
              have HR := Lib.hid (show manyI ⟨o, c, k, ⟨vk, vn, vs⟩⟩ = k ∧ okN ⟨o, c, k, ⟨vk, vn, vs⟩⟩ = true from ⟨by unfold manyI; rw [if_neg h4, if_pos h23], decide_eq_true (.inr (.inr (.inr ⟨h23, hk, hk2⟩)))⟩)
              clear hk hk2 h4
              rcases h23 with rfl | rfl <;> (
                go_wp2_with fail
                go_region
                go_wp2_with fail
                go_ret2
                exact ⟨by rw [HR.out.1, HR.out.2]; rfl, Ext.trans HX2.out (Ext.drew _)⟩)
            · have d2 : decide (k ≤ (40 : Int)) = false := decide_eq_false hk2
              have HR := Lib.hid (show manyI ⟨o, c, k, ⟨vk, vn, vs⟩⟩ = k ∧ okN ⟨o, c, k, ⟨vk, vn, vs⟩⟩ = false from ⟨by unfold manyI; rw [if_neg h4, if_pos h23], decide_eq_false (by show ¬ (o = 1 ∨ o = 4 ∨ (5 ≤ o ∧ o ≤ 8) ∨ (o = 2 ∨ o = 3) ∧ 1 ≤ k ∧ k ≤ 40); omega)⟩)
              clear hk hk2 h4
              rcases h23 with rfl | rfl <;> (
                go_wp2_with fail
                go_region
                go_wp2_with fail
                go_ret2
                exact ⟨by rw [HR.out.1, HR.out.2]; rfl, Ext.trans HX2.out (Ext.drew _)⟩)
          · have d1 : decide ((1 : Int) ≤ k) = false := decide_eq_false hk
            have HR := Lib.hid (show manyI ⟨o, c, k, ⟨vk, vn, vs⟩⟩ = k ∧ okN ⟨o, c, k, ⟨vk, vn, vs⟩⟩ = false from ⟨by unfold manyI; rw [if_neg h4, if_pos h23], decide_eq_false (by show ¬ (o = 1 ∨ o = 4 ∨ (5 ≤ o ∧ o ≤ 8) ∨ (o = 2 ∨ o = 3) ∧ 1 ≤ k ∧ k ≤ 40); omega)⟩)
            clear hk h4
            rcases h23 with rfl | rfl <;> (
              go_wp2_with fail
              go_region
              go_wp2_with fail
              go_ret2
              exact ⟨by rw [HR.out.1, HR.out.2]; rfl, Ext.trans HX2.out (Ext.drew _)⟩)
        · have q2 : (o == (2 : Int)) = false := beq_eq_false_iff_ne.2 (by omega)
          have q3 : (o == (3 : Int)) = false := beq_eq_false_iff_ne.2 (by omega)
          have HR := Lib.hid (show manyI ⟨o, c, k, ⟨vk, vn, vs⟩⟩ = 0 ∧ okN ⟨o, c, k, ⟨vk, vn, vs⟩⟩ = false from ⟨by unfold manyI; rw [if_neg h4, if_neg h23], decide_eq_false (by have := H0.out; show ¬ (o = 1 ∨ o = 4 ∨ (5 ≤ o ∧ o ≤ 8) ∨ (o = 2 ∨ o = 3) ∧ 1 ≤ k ∧ k ≤ 40); omega)⟩)
          clear h4 h23
          go_wp2_with fail
          go_ret2
          exact ⟨by rw [HR.out.1, HR.out.2]; rfl, HX2.out⟩

set_option maxRecDepth 100000 in
set_option maxHeartbeats 2000000 in
theorem pWhole_any (u : Value) (l : List Nd) (w : World) (hu : RdNds w u l) :
    Calls Tryz.prog 19 #[u] w fun e w' => e = .returned (.bool (wholeS l)) ∧ Ext w w' := by
  obtain ⟨ao, cap, rfl, -, -⟩ := hu.shape
  obtain ⟨-, h1, h2, hc⟩ := hu.plain
  have HC := Lib.hid hc
  unfold maxLen at h2
  obtain ⟨N, hN⟩ : ∃ N, l.length = N := ⟨_, rfl⟩
  have HN := Lib.hid hN
  rw [hN] at h1 ⊢
  by_cases hbig : 40 < N
  · have d1 : decide (40 < N) = true := decide_eq_true hbig
    have d1' : decide ((40 : Int) < (N : Int)) = true := decide_eq_true (by omega)
    have HQ := Lib.hid (show wholeS l = false by unfold wholeS; rw [decide_eq_false (by omega)]; rfl)
    rw [HQ.out]
    clear hu hc hN hbig
    go_enter Tryz.func19, Tryz.ntmps19
    go_wp2_with fail
    go_ret
    exact ⟨rfl, Ext.keeps.refl _⟩
  · have d1 : decide (40 < N) = false := decide_eq_false hbig
    have d1' : decide ((40 : Int) < (N : Int)) = false := decide_eq_false (by omega)
    have HQ := Lib.hid (show wholeS l = wholeGo 1 l by unfold wholeS; rw [decide_eq_true (by omega)]; rfl)
    have hle : N ≤ 40 := by omega
    rw [HQ.out]
    clear hu hc hN hbig
    go_enter Tryz.func19, Tryz.ntmps19
    go_wp2_with fail
    go_loopw [3, 6, 7, 13] (fun m _ _ i wr => ∃ (j : Nat) (M : Int), j ≤ N ∧ i = .int .i64 j ∧ m = .int .i64 M ∧ 0 ≤ M ∧ M ≤ 1 + 40 * j ∧ wholeGo 1 l = wholeGo M (l.drop j) ∧ Ext w wr) (fun _ _ _ i _ => N - (intOf i).toNat)
    case atStart => exact ⟨0, 1, Nat.zero_le _, rfl, rfl, by decide, by decide, rfl, Ext.keeps.refl _⟩
    case round =>
      obtain ⟨j, M, hj, rfl, rfl, hM0, hM1, hgo, hx⟩ := hrel
      have HG := Lib.hid hgo
      have HX := Lib.hid hx
      clear hgo hx
      by_cases hlt : j < N
      · have hjl : j < l.length := by have := HN.out; omega
        obtain ⟨g, off, rfl, c0, c1, c2, c3, c4, c5⟩ := HC.out j hjl
        have x0 := (HX.out.cell (lt_of_cell c0)).trans c0
        have x1 := (HX.out.cell (lt_of_cell c1)).trans c1
        have x2 := (HX.out.cell (lt_of_cell c2)).trans c2
        have x3 := (HX.out.cell (lt_of_cell c3)).trans c3
        have x4 := (HX.out.cell (lt_of_cell c4)).trans c4
        have x5 := (HX.out.cell (lt_of_cell c5)).trans c5
        have HS := Lib.hid (show wholeGo 1 l = (okN l[j] && (!decide (M = 0) && wholeGo (M - 1 + manyI l[j]) (l.drop (j + 1)))) by rw [HG.out, List.drop_eq_getElem_cons hjl, wholeGo_cons])
        have HO := Lib.hid (pOperands_any l[j])
        have HOM := Lib.hid (okN_many (n := l[j]))
        generalize l[j] = nd at x0 x1 x2 x3 x4 x5 HS HO HOM
        generalize manyI nd = many at HS HO HOM
        generalize okN nd = ok at HS HO HOM
        obtain ⟨o, c, k, ⟨vk, vn, vs⟩⟩ := nd
        unfold Nd.val at HO
        simp only at x0 x1 x2 x3 x4 x5 HO
        clear c0 c1 c2 c3 c4 c5 hjl
        go_wp2_with fail
        refine (HO.out _).mono ?_
        rintro e w1 ⟨rfl, hx⟩
        have HX1 := Lib.hid (Ext.trans HX.out (Ext.trans (ext_new _ _) hx))
        clear hx
        cases ok with
        | false =>
          go_wp2_with fail
          go_ret
          exact ⟨by rw [HS.out]; rfl, HX1.out⟩
        | true =>
          have hm := HOM.out rfl
          by_cases hM : M = 0
          · subst hM
            go_wp2_with fail
            go_ret
            exact ⟨by rw [HS.out]; rfl, HX1.out⟩
          · have q : (M == (0 : Int)) = false := beq_eq_false_iff_ne.2 hM
            have HS2 := Lib.hid (show wholeGo 1 l = wholeGo (M - 1 + many) (l.drop (j + 1)) by rw [HS.out, decide_eq_false hM]; simp)
            have hM' : 1 ≤ M := by omega
            clear hM
            go_wp2_with fail
            go_roundw
            case rel => exact ⟨j + 1, M - 1 + many, by omega, by go_num, by congr 1; omega, by omega, by omega, HS2.out, HX1.out⟩
            case measure => simp [intOf]; omega
      · have e : j = N := by omega
        subst e
        have HF := Lib.hid (show wholeGo 1 l = decide (M = 0) by rw [HG.out, List.drop_eq_nil_of_le (by have := HN.out; omega)]; rfl)
        by_cases hM : M = 0
        · subst hM
          go_wp2_with fail
          go_ret
          exact ⟨by rw [HF.out]; rfl, HX.out⟩
        · have q : (M == (0 : Int)) = false := beq_eq_false_iff_ne.2 hM
          have HF2 := Lib.hid (decide_eq_false hM)
          clear hM
          go_wp2_with fail
          go_ret
          exact ⟨by rw [HF.out, HF2.out]; rfl, HX.out⟩

end Go.Proofs.YtfnmcdjfdhdlmaaGreatDoor

/-
  Conditions judged node by node, over any things: what a function that calls itself comes to. No program.
-/
namespace Go.Proofs.YtfnmcdjfdhdlmaaGreatDoor
open Go.RowKit

section
variable {α : Type} (leaf : Nd → α) (nt : α → α) (jn : Nd → α → α → α)
def foldC (n : Nd) : List α → α
  | [] => leaf n
  | x :: t => t.foldl (jn n) x
def combG (n : Nd) (xs : List α) : α := if n.op = 4 then (match xs with | [] => leaf n | x :: _ => nt x) else foldC leaf jn n xs
theorem combG_not (n : Nd) (h : n.op = 4) (x : α) (t : List α) : combG leaf nt jn n (x :: t) = nt x := if_pos h
theorem combG_fold (n : Nd) (h : n.op ≠ 4) (xs : List α) : combG leaf nt jn n xs = foldC leaf jn n xs := if_neg h
theorem foldC_snoc (n : Nd) (vs : List α) (v : α) (h : vs ≠ []) : foldC leaf jn n (vs ++ [v]) = jn n (foldC leaf jn n vs) v := by
  cases vs with
  | nil => exact absurd rfl h
  | cons x t => show (t ++ [v]).foldl (jn n) x = _; rw [List.foldl_append]; rfl
end

/-- What is left is the last nodes. -/
theorem endK_drop (l : List Nd) : ∀ k r, endK k l = some r → l.drop (l.length - r.length) = r := by
  induction l with
  | nil =>
    intro k r h
    cases k with
    | zero => rw [endK_zero] at h; simp only [Option.some.injEq] at h; rw [← h]; rfl
    | succ k => rw [endK_nil] at h; cases h
  | cons n t ih =>
    intro k r h
    cases k with
    | zero => rw [endK_zero] at h; simp only [Option.some.injEq] at h; rw [← h]; simp
    | succ k =>
      rw [endK_cons] at h
      have e := ih _ _ h
      have hl := endK_len t _ _ h
      rw [List.length_cons, show t.length + 1 - r.length = (t.length - r.length) + 1 by omega, List.drop_succ_cons]
      exact e
/-- The same, with what stands ahead. -/
theorem endK_place {l : List Nd} {i k : Nat} {r : List Nd} (hi : i ≤ l.length) (h : endK k (l.drop i) = some r) : l.drop (l.length - r.length) = r ∧ r.length ≤ l.length - i := by
  have e := endK_drop _ _ _ h
  have hl := endK_len _ _ _ h
  rw [List.length_drop] at e hl
  rw [List.drop_drop] at e
  refine ⟨?_, by omega⟩
  rw [show i + (l.length - i - r.length) = l.length - r.length by omega] at e
  exact e
theorem endK_step {k : Nat} {x r : List Nd} (h : endK (k + 1) x = some r) : ∃ y, endK 1 x = some y ∧ endK k y = some r := by
  rw [Nat.add_comm, endK_add] at h
  cases hy : endK 1 x with
  | none => rw [hy] at h; cases h
  | some y => rw [hy] at h; exact ⟨y, rfl, h⟩

/-- Two ways to combine that agree where a condition is right. -/
theorem stk_agree {α : Type} (c1 c2 : Nd → List α → α) (P : α → Prop) (l : List Nd) (h : ∀ n ∈ l, ∀ xs : List α, xs.length = kidsN n → (∀ x ∈ xs, P x) → c1 n xs = c2 n xs ∧ P (c2 n xs)) :
    ∀ k, endK k l = some [] → stk c1 l = stk c2 l ∧ ∀ x ∈ stk c2 l, P x := by
  induction l with
  | nil => intro k _; exact ⟨rfl, fun x hx => by cases hx⟩
  | cons n t ih =>
    intro k hk
    cases k with
    | zero => rw [endK_zero] at hk; cases hk
    | succ k =>
      rw [endK_cons] at hk
      obtain ⟨e, hP⟩ := ih (fun m hm => h m (List.mem_cons_of_mem _ hm)) _ hk
      obtain ⟨ws, hw, ew⟩ := stk_end c2 t _ _ hk
      have ew' : stk c2 t = ws := by rw [ew]; exact List.append_nil _
      have hlen : ((stk c2 t).take (kidsN n)).length = kidsN n := by rw [ew', List.length_take]; omega
      have hPt : ∀ x ∈ (stk c2 t).take (kidsN n), P x := fun x hx => hP x (List.mem_of_mem_take hx)
      obtain ⟨h1, h2⟩ := h n (List.mem_cons_self ..) _ hlen hPt
      refine ⟨by rw [stk_cons, stk_cons, e, h1], fun x hx => ?_⟩
      rw [stk_cons] at hx
      rcases List.mem_cons.1 hx with rfl | hx
      · exact h2
      · exact hP x (List.mem_of_mem_drop hx)

/-! ### Truths of a row -/

def valR (r : List V) (n : Nd) : V := if 0 ≤ n.col ∧ n.col < r.length then (r[n.col.toNat]?).getD V.zero else V.zero
/-- What comes of a node without parts, as the program asks. -/
def leafR (lk : List UInt8 → List UInt8 → Bool) (r : List V) (n : Nd) : Int :=
  if n.op = 1 then 2 else if n.op = 5 then equalT (valR r n) n.v else if n.op = 6 then lessT (valR r n) n.v
  else if n.op = 7 then (if (valR r n).k = 0 then 1 else if lk n.v.s (valR r n).s = true then 2 else 0) else if (valR r n).k = 0 then 2 else 0
def joinT (n : Nd) (a b : Int) : Int := if n.op = 2 then andT a b else orT a b
def tri (x : Int) : Prop := x = 0 ∨ x = 1 ∨ x = 2
theorem tri_tr {x : Int} (h : tri x) : tr x = x := by rcases h with rfl | rfl | rfl <;> decide
theorem tri_and {a b : Int} (ha : tri a) (hb : tri b) : tri (andT a b) := by
  unfold andT
  rw [tri_tr ha, tri_tr hb]
  rcases ha with rfl | rfl | rfl <;> rcases hb with rfl | rfl | rfl <;> unfold tri <;> decide
theorem tri_or {a b : Int} (ha : tri a) (hb : tri b) : tri (orT a b) := by
  unfold orT
  rw [tri_tr ha, tri_tr hb]
  rcases ha with rfl | rfl | rfl <;> rcases hb with rfl | rfl | rfl <;> unfold tri <;> decide
theorem tri_not {a : Int} (ha : tri a) : tri (notT a) := by
  unfold notT
  rw [tri_tr ha]
  rcases ha with rfl | rfl | rfl <;> unfold tri <;> decide
theorem tri_join {n : Nd} {a b : Int} (ha : tri a) (hb : tri b) : tri (joinT n a b) := by
  unfold joinT
  split
  · exact tri_and ha hb
  · exact tri_or ha hb
theorem tri_known (a b : V) (is : Bool) : tri (knownT a b is) := by
  unfold knownT tri
  split
  · exact .inr (.inl rfl)
  · split
    · exact .inr (.inr rfl)
    · exact .inl rfl
theorem tri_leaf (lk : List UInt8 → List UInt8 → Bool) (r : List V) (n : Nd) : tri (leafR lk r n) := by
  unfold leafR
  split
  · exact .inr (.inr rfl)
  · split
    · exact tri_known _ _ _
    · split
      · exact tri_known _ _ _
      · split
        · split
          · exact .inr (.inl rfl)
          · split
            · exact .inr (.inr rfl)
            · exact .inl rfl
        · split
          · exact .inr (.inr rfl)
          · exact .inl rfl
theorem tri_bounds {x : Int} (h : tri x) : 0 ≤ x ∧ x ≤ 255 := by rcases h with rfl | rfl | rfl <;> decide
/-- What comes of all, as the program asks, is the document's. -/
theorem judge_eval (lk : List UInt8 → List UInt8 → Bool) (ok : List UInt8 → Bool) (kinds : List Int) (l : List Nd) (r : List V) (h : rightA ok kinds l) (hr : r.length = kinds.length) :
    stk (combG (leafR lk r) notT joinT) l = [evalS lk l r] ∧ tri (evalS lk l r) := by
  have key := stk_agree (combG (leafR lk r) notT joinT) (combT lk r) tri l (fun n hn xs hx hP => by
    have h1 := h.2.1 n hn
    obtain ⟨hk1, hk2, hk3, hk4⟩ := oneN_kids h1
    have f2 : ∀ (xs : List Int), (∀ x ∈ xs, tri x) → ∀ a, tri a → tri (xs.foldl andT a) := by
      intro xs
      induction xs with
      | nil => intro _ a ha; exact ha
      | cons x t ih => intro hp a ha; exact ih (fun y hy => hp y (List.mem_cons_of_mem _ hy)) _ (tri_and ha (hp x (List.mem_cons_self ..)))
    have f3 : ∀ (xs : List Int), (∀ x ∈ xs, tri x) → ∀ a, tri a → tri (xs.foldl orT a) := by
      intro xs
      induction xs with
      | nil => intro _ a ha; exact ha
      | cons x t ih => intro hp a ha; exact ih (fun y hy => hp y (List.mem_cons_of_mem _ hy)) _ (tri_or ha (hp x (List.mem_cons_self ..)))
    by_cases h2 : n.op = 2
    · have hx1 := hk2 (.inl h2)
      cases xs with
      | nil => simp at hx; omega
      | cons x t =>
        have hx0 := hP x (List.mem_cons_self ..)
        refine ⟨?_, ?_⟩
        · unfold combG combT
          rw [if_neg (by omega), if_pos h2]
          show t.foldl (joinT n) x = t.foldl andT (andT 2 x)
          rw [show joinT n = andT from funext fun a => funext fun b => if_pos h2, show andT 2 x = x by unfold andT; rw [tri_tr hx0]; rcases hx0 with rfl | rfl | rfl <;> decide]
        · unfold combT
          rw [if_pos h2]
          exact f2 _ hP _ (.inr (.inr rfl))
    · by_cases h3 : n.op = 3
      · have hx1 := hk2 (.inr h3)
        cases xs with
        | nil => simp at hx; omega
        | cons x t =>
          have hx0 := hP x (List.mem_cons_self ..)
          refine ⟨?_, ?_⟩
          · unfold combG combT
            rw [if_neg (by omega), if_neg h2, if_pos h3]
            show t.foldl (joinT n) x = t.foldl orT (orT 0 x)
            rw [show joinT n = orT from funext fun a => funext fun b => if_neg h2, show orT 0 x = x by unfold orT; rw [tri_tr hx0]; rcases hx0 with rfl | rfl | rfl <;> decide]
          · unfold combT
            rw [if_neg h2, if_pos h3]
            exact f3 _ hP _ (.inl rfl)
      · by_cases h4 : n.op = 4
        · have hx1 := hk3 h4
          match xs, hx with
          | [], hx => simp at hx; omega
          | [x], _ =>
            refine ⟨?_, ?_⟩
            · unfold combG combT
              rw [if_pos h4, if_neg h2, if_neg h3, if_pos h4]
              rfl
            · unfold combT
              rw [if_neg h2, if_neg h3, if_pos h4]
              exact tri_not (hP x (List.mem_cons_self ..))
          | _ :: _ :: _, hx => simp at hx; omega
        · have hx1 := hk4 h2 h3 h4
          have hxs : xs = [] := List.length_eq_zero_iff.1 (by omega)
          subst hxs
          have he : combG (leafR lk r) notT joinT n [] = combT lk r n [] := by
            unfold combG combT
            rw [if_neg h4, if_neg h2, if_neg h3, if_neg h4]
            show leafR lk r n = _
            obtain ⟨h8, -, hc, -⟩ := h1
            unfold leafR
            by_cases ho1 : n.op = 1
            · rw [if_pos ho1, if_pos ho1]
            · have hcol : colN n = true := decide_eq_true (by omega)
              rw [if_pos hcol, ← hr] at hc
              rw [if_neg ho1, if_neg ho1]
              have hv : valR r n = (r[n.col.toNat]?).getD V.zero := if_pos hc
              rw [hv]
              simp only
              by_cases h5 : n.op = 5
              · rw [if_pos h5, if_pos h5]
              · rw [if_neg h5, if_neg h5]
                by_cases h6 : n.op = 6
                · rw [if_pos h6, if_pos h6]
                · rw [if_neg h6, if_neg h6]
                  by_cases h7 : n.op = 7
                  · rw [if_pos h7, if_neg (show ¬ n.op = 8 by omega)]
                  · rw [if_neg h7, if_pos (show n.op = 8 by omega)]
          refine ⟨he, ?_⟩
          rw [← he]
          unfold combG
          rw [if_neg h4]
          exact tri_leaf lk r n) 1 h.2.2
  obtain ⟨v, hv, -⟩ := stk_whole (combT lk r) h.2.2
  have he : evalS lk l r = v := by unfold evalS; rw [hv]; rfl
  refine ⟨by rw [key.1, hv, he], ?_⟩
  rw [he]
  exact key.2 v (by rw [hv]; exact List.mem_cons_self ..)

end Go.Proofs.YtfnmcdjfdhdlmaaGreatDoor

/-
  'panics' of layer 4: what a function's panic is told as.
-/
namespace Go.Proofs.YtfnmcdjfdhdlmaaGreatDoor
open Go.RowKit

theorem bool_block {w w2 : World} {b : Bool} (h : Ext (w.alloc (.cells #[.bool b] 4)) w2) : w2.heap[w.heap.size]? = some (.cells #[.bool b] 4 (0, 0)) := by
  rw [h.block w.heap.size (by simp)]
  exact heap_alloc_new w _

end Go.Proofs.YtfnmcdjfdhdlmaaGreatDoor

/-
  The contracts of the document's own Equal and Less.
-/
namespace Go.Proofs.YtfnmcdjfdhdlmaaGreatDoor
open Go.RowKit Go.BigFrame

theorem new_cell (w : World) (xs : List Value) (t : TypeId) : ∀ j u, xs[j]? = some u → (w.alloc (.cells xs.toArray t)).cell? ⟨w.heap.size, j, none⟩ = some u := by
  intro j u hj
  unfold World.cell?
  rw [heap_alloc_new]
  simpa using hj
theorem kept_cell {w w' : World} {b : Nat} {xs : List Value} (h : ∀ j u, xs[j]? = some u → w.cell? ⟨b, j, none⟩ = some u) (hb : Ext w w') : ∀ j u, xs[j]? = some u → w'.cell? ⟨b, j, none⟩ = some u := fun j u hj => by
  have hc := h j u hj
  rw [← hc]
  exact hb.cell (lt_of_cell hc)
theorem cells_two0 (w : World) (xs ys : List Value) (t : TypeId) : ∀ j u, xs[j]? = some u → ((w.alloc (.cells xs.toArray t)).alloc (.cells ys.toArray t)).cell? ⟨w.heap.size, j, none⟩ = some u :=
  kept_cell (new_cell w xs t) (ext_one _ _)
theorem cells_two1 (w : World) (xs ys : List Value) (t : TypeId) : ∀ j u, ys[j]? = some u → ((w.alloc (.cells xs.toArray t)).alloc (.cells ys.toArray t)).cell? ⟨w.heap.size + 1, j, none⟩ = some u := by
  have h := new_cell (w.alloc (.cells xs.toArray t)) ys t
  have e : (w.alloc (.cells xs.toArray t)).heap.size = w.heap.size + 1 := by simp
  rw [e] at h
  exact h
/-- What is there stays, in whatever later world of a statement. -/
theorem later_cell {w : World} {b : Nat} {xs : List Value} (h : ∀ j u, xs[j]? = some u → w.cell? ⟨b, j, none⟩ = some u) (j : Nat) (u : Value) (hj : xs[j]? = some u) : ∀ z : Later Ext w.drew, z.val.cell? ⟨b, j, none⟩ = some u :=
  fun z => kept_cell h (Ext.trans (Ext.drew w) z.ext) j u hj

theorem now_cell {w : World} {b : Nat} {xs : List Value} (h : ∀ j u, xs[j]? = some u → w.cell? ⟨b, j, none⟩ = some u) (j : Nat) (u : Value) (hj : xs[j]? = some u) : ∀ z : Later Ext w, z.val.cell? ⟨b, j, none⟩ = some u :=
  fun z => kept_cell h z.ext j u hj

theorem equalT_eq (a b : V) : equalT a b = knownT a b (decide (a = b)) := by
  unfold equalT
  rw [decide_eq_decide.2 cmpV_zero]

end Go.Proofs.YtfnmcdjfdhdlmaaGreatDoor

/-
  Assertions of a type (with two results) at a number, a text, a truth, nothing.
-/
namespace Go.Proofs.YtfnmcdjfdhdlmaaGreatDoor
open Go.RowKit Go.BigFrame

theorem as_hit (u : Value) (w : World) : (Instr.typeAssert (.iface 4 u) 20 4 true).run Tryz.prog w = .ok (.tuple #[u, .bool true]) w ∧
    (Instr.typeAssert (.iface 3 u) 20 3 true).run Tryz.prog w = .ok (.tuple #[u, .bool true]) w ∧
    (Instr.typeAssert (.iface 9 u) 20 9 true).run Tryz.prog w = .ok (.tuple #[u, .bool true]) w := by
  simp [Instr.typeAssert, run_underlying Tryz.underlying4, run_underlying Tryz.underlying3, run_underlying Tryz.underlying9]

theorem as_miss (T : TypeId) (u : Value) (w : World) : (T ≠ 4 → (Instr.typeAssert (.iface T u) 20 4 true).run Tryz.prog w = .ok (.tuple #[.bool false, .bool false]) w) ∧
    (T ≠ 3 → (Instr.typeAssert (.iface T u) 20 3 true).run Tryz.prog w = .ok (.tuple #[.int .i64 0, .bool false]) w) ∧
    (T ≠ 9 → (Instr.typeAssert (.iface T u) 20 9 true).run Tryz.prog w = .ok (.tuple #[.string ⟨#[]⟩, .bool false]) w) := by
  refine ⟨fun h => ?_, fun h => ?_, fun h => ?_⟩ <;>
  simp [Instr.typeAssert, run_underlying Tryz.underlying4, run_underlying Tryz.underlying3, run_underlying Tryz.underlying9, Tryz.zeroValue4, Tryz.zeroValue3, Tryz.zeroValue9, h]

theorem as_nil (w : World) : (Instr.typeAssert .nilIface 20 4 true).run Tryz.prog w = .ok (.tuple #[.bool false, .bool false]) w ∧
    (Instr.typeAssert .nilIface 20 3 true).run Tryz.prog w = .ok (.tuple #[.int .i64 0, .bool false]) w ∧
    (Instr.typeAssert .nilIface 20 9 true).run Tryz.prog w = .ok (.tuple #[.string ⟨#[]⟩, .bool false]) w := by
  refine ⟨?_, ?_, ?_⟩ <;>
  simp [Instr.typeAssert, run_underlying Tryz.underlying4, run_underlying Tryz.underlying3, run_underlying Tryz.underlying9, Tryz.zeroValue4, Tryz.zeroValue3, Tryz.zeroValue9]

end Go.Proofs.YtfnmcdjfdhdlmaaGreatDoor

/-
  The program's contracts of layer 4: truths, and how two values stand.
-/
namespace Go.Proofs.YtfnmcdjfdhdlmaaGreatDoor
open Go.RowKit Go.BigFrame

/-! ### Truths -/

theorem pKnown_any (a : Int) (ha : 0 ≤ a ∧ a ≤ 255) (w : World) :
    Calls Tryz.prog 66 #[.int .u8 a] w fun e w' => e = .returned (.int .u8 (tr a)) ∧ w' = w := by
  obtain ⟨h0, h1⟩ := ha
  unfold tr
  by_cases h : 2 < a
  · have hd : decide (2 < a) = true := decide_eq_true h
    rw [if_pos h]
    clear h
    go_enter Tryz.func66, Tryz.ntmps66
    go_wp2_with fail
    go_ret
    exact ⟨rfl, rfl⟩
  · have hd : decide (2 < a) = false := decide_eq_false h
    rw [if_neg h]
    clear h
    go_enter Tryz.func66, Tryz.ntmps66
    go_wp2_with fail
    go_ret
    exact ⟨rfl, rfl⟩

theorem And_any (a b : Int) (ha : 0 ≤ a ∧ a ≤ 255) (hb : 0 ≤ b ∧ b ≤ 255) (w : World) :
    Calls Tryz.prog 67 #[.int .u8 a, .int .u8 b] w fun e w' => e = .returned (.int .u8 (andT a b)) ∧ Ext w w' := by
  unfold andT
  have HA := Lib.hid (pKnown_any a ha)
  have HB := Lib.hid (pKnown_any b hb)
  clear ha hb
  generalize tr a = x at HA ⊢
  generalize tr b = y at HB ⊢
  go_enter Tryz.func67, Tryz.ntmps67
  go_wp2_with fail
  refine (HA.out _).mono ?_
  rintro e w' ⟨rfl, rfl⟩
  go_wp2_with fail
  refine (HB.out _).mono ?_
  rintro e w' ⟨rfl, rfl⟩
  go_wp2_with fail
  go_ret
  exact ⟨rfl, by first | exact Ext.keeps.refl _ | exact Ext.drew _⟩

theorem Or_any (a b : Int) (ha : 0 ≤ a ∧ a ≤ 255) (hb : 0 ≤ b ∧ b ≤ 255) (w : World) :
    Calls Tryz.prog 68 #[.int .u8 a, .int .u8 b] w fun e w' => e = .returned (.int .u8 (orT a b)) ∧ Ext w w' := by
  unfold orT
  have HA := Lib.hid (pKnown_any a ha)
  have HB := Lib.hid (pKnown_any b hb)
  clear ha hb
  generalize tr a = x at HA ⊢
  generalize tr b = y at HB ⊢
  go_enter Tryz.func68, Tryz.ntmps68
  go_wp2_with fail
  refine (HA.out _).mono ?_
  rintro e w' ⟨rfl, rfl⟩
  go_wp2_with fail
  refine (HB.out _).mono ?_
  rintro e w' ⟨rfl, rfl⟩
  go_wp2_with fail
  go_ret
  exact ⟨rfl, by first | exact Ext.keeps.refl _ | exact Ext.drew _⟩

theorem Not_any (a : Int) (ha : 0 ≤ a ∧ a ≤ 255) (w : World) :
    Calls Tryz.prog 37 #[.int .u8 a] w fun e w' => e = .returned (.int .u8 (notT a)) ∧ Ext w w' := by
  unfold notT
  have HA := Lib.hid (pKnown_any a ha)
  have ta := tr_three ha.1
  clear ha
  generalize tr a = x at HA ta ⊢
  have h0 : 0 ≤ x := by omega
  have h2 : x ≤ 2 := by omega
  clear ta
  go_enter Tryz.func37, Tryz.ntmps37
  go_wp2_with fail
  refine (HA.out _).mono ?_
  rintro e w' ⟨rfl, rfl⟩
  go_wp2_with fail
  go_ret
  exact ⟨rfl, Ext.keeps.refl _⟩

/-! ### The order -/

theorem pNaN_u8 (a : Int) (w : World) : Calls Tryz.prog 120 #[.int .u8 a] w fun e w' => e = .returned (.bool false) ∧ w' = w := by
  go_enter Tryz.func120, Tryz.ntmps120
  go_wp2_with fail
  go_ret
  exact ⟨rfl, rfl⟩
theorem pNaN_int (a : Int) (w : World) : Calls Tryz.prog 119 #[.int .i64 a] w fun e w' => e = .returned (.bool false) ∧ w' = w := by
  go_enter Tryz.func119, Tryz.ntmps119
  go_wp2_with fail
  go_ret
  exact ⟨rfl, rfl⟩

theorem pCompare_u8 (a b : Int) (w : World) :
    Calls Tryz.prog 103 #[.int .u8 a, .int .u8 b] w fun e w' => e = .returned (.int .i64 (cmpN a b)) ∧ w' = w := by
  have HA := Lib.hid (pNaN_u8 a)
  have HB := Lib.hid (pNaN_u8 b)
  unfold cmpN
  by_cases h : a = b
  · subst h
    rw [if_pos rfl]
    go_enter Tryz.func103, Tryz.ntmps103
    go_wp2_with fail
    refine (HA.out _).mono ?_
    rintro e w' ⟨rfl, rfl⟩
    go_wp2_with fail
    refine (HA.out _).mono ?_
    rintro e w' ⟨rfl, rfl⟩
    go_wp2_with fail
    go_ret
    exact ⟨rfl, rfl⟩
  · rw [if_neg h]
    by_cases h2 : a < b
    · have hd : decide (a < b) = true := decide_eq_true h2
      rw [if_pos h2]
      clear h h2
      go_enter Tryz.func103, Tryz.ntmps103
      go_wp2_with fail
      refine (HA.out _).mono ?_
      rintro e w' ⟨rfl, rfl⟩
      go_wp2_with fail
      refine (HB.out _).mono ?_
      rintro e w' ⟨rfl, rfl⟩
      go_wp2_with fail
      go_ret
      exact ⟨rfl, rfl⟩
    · have hd : decide (a < b) = false := decide_eq_false h2
      have hd2 : decide (b < a) = true := decide_eq_true (by omega)
      rw [if_neg h2]
      clear h h2
      go_enter Tryz.func103, Tryz.ntmps103
      go_wp2_with fail
      refine (HA.out _).mono ?_
      rintro e w' ⟨rfl, rfl⟩
      go_wp2_with fail
      refine (HB.out _).mono ?_
      rintro e w' ⟨rfl, rfl⟩
      go_wp2_with fail
      go_ret
      exact ⟨rfl, rfl⟩

theorem pCompare_int (a b : Int) (w : World) :
    Calls Tryz.prog 104 #[.int .i64 a, .int .i64 b] w fun e w' => e = .returned (.int .i64 (cmpN a b)) ∧ w' = w := by
  have HA := Lib.hid (pNaN_int a)
  have HB := Lib.hid (pNaN_int b)
  unfold cmpN
  by_cases h : a = b
  · subst h
    rw [if_pos rfl]
    go_enter Tryz.func104, Tryz.ntmps104
    go_wp2_with fail
    refine (HA.out _).mono ?_
    rintro e w' ⟨rfl, rfl⟩
    go_wp2_with fail
    refine (HA.out _).mono ?_
    rintro e w' ⟨rfl, rfl⟩
    go_wp2_with fail
    go_ret
    exact ⟨rfl, rfl⟩
  · rw [if_neg h]
    by_cases h2 : a < b
    · have hd : decide (a < b) = true := decide_eq_true h2
      rw [if_pos h2]
      clear h h2
      go_enter Tryz.func104, Tryz.ntmps104
      go_wp2_with fail
      refine (HA.out _).mono ?_
      rintro e w' ⟨rfl, rfl⟩
      go_wp2_with fail
      refine (HB.out _).mono ?_
      rintro e w' ⟨rfl, rfl⟩
      go_wp2_with fail
      go_ret
      exact ⟨rfl, rfl⟩
    · have hd : decide (a < b) = false := decide_eq_false h2
      have hd2 : decide (b < a) = true := decide_eq_true (by omega)
      rw [if_neg h2]
      clear h h2
      go_enter Tryz.func104, Tryz.ntmps104
      go_wp2_with fail
      refine (HA.out _).mono ?_
      rintro e w' ⟨rfl, rfl⟩
      go_wp2_with fail
      refine (HB.out _).mono ?_
      rintro e w' ⟨rfl, rfl⟩
      go_wp2_with fail
      go_ret
      exact ⟨rfl, rfl⟩

theorem compareBytes_eq : ∀ (a b : List UInt8), Lib.compareBytes a b = cmpB a b
  | [], [] => rfl
  | [], _ :: _ => rfl
  | _ :: _, [] => rfl
  | x :: a, y :: b => by
    have ih := compareBytes_eq a b
    unfold Lib.compareBytes
    rw [ih]
    unfold cmpB
    rw [show Op.bytesLess (x :: a) (y :: b) = (decide (x < y) || (x == y && Op.bytesLess a b)) by simp only [Op.bytesLess]]
    by_cases hxy : x = y
    · subst hxy
      have hn : ¬ x < x := by simp
      rw [if_neg hn, if_neg hn]
      simp [hn]
    · rw [if_neg (fun h : x :: a = y :: b => hxy (List.cons.inj h).1)]
      by_cases hl : x < y
      · simp [hl]
      · have hg : y < x := by
          rcases Nat.lt_or_ge y.toNat x.toNat with h | h
          · exact h
          · exact absurd (UInt8.toNat_inj.1 (Nat.le_antisymm h (Nat.le_of_not_lt hl))) hxy
        simp [hl, hg, hxy]

set_option maxRecDepth 100000 in
theorem pCompareString (a b : ByteArray) (w : World) :
    Calls Tryz.prog 121 #[.string a, .string b] w fun e w' => e = .returned (.int .i64 (Lib.compareBytes a.data.toList b.data.toList)) ∧ w' = w := by
  go_enter Tryz.func121, Tryz.ntmps121
  go_wp2
  rw [run_callFunc_extern Tryz.func128 (by kernel_rfl) (by kernel_rfl) (by kernel_rfl) (e := Extern.BytealgCompare.compare) (by kernel_rfl), Lib.run_compareString]
  simp only [Result.andThen]
  rw [Oper.upon_value]
  go_wp2
  go_ret
  exact ⟨rfl, rfl⟩

theorem pCompare_text (a b : List UInt8) (w : World) :
    Calls Tryz.prog 105 #[.string ⟨a.toArray⟩, .string ⟨b.toArray⟩] w fun e w' => e = .returned (.int .i64 (cmpB a b)) ∧ w' = w := by
  have HC := Lib.hid (fun w => pCompareString ⟨a.toArray⟩ ⟨b.toArray⟩ w)
  simp only [compareBytes_eq] at HC
  go_enter Tryz.func105, Tryz.ntmps105
  go_wp2_with fail
  refine (HC.out _).mono ?_
  rintro e w' ⟨rfl, rfl⟩
  go_wp2_with fail
  go_ret
  exact ⟨rfl, rfl⟩

end Go.Proofs.YtfnmcdjfdhdlmaaGreatDoor

/-
  The program's contracts of layer 4: Compare, Equal, Less.
-/
namespace Go.Proofs.YtfnmcdjfdhdlmaaGreatDoor
open Go.RowKit Go.BigFrame

/-- The first that is not 0. -/
def firstNZ : List Int → Int
  | [] => 0
  | x :: t => if x = 0 then firstNZ t else x

theorem pOr_any (x : Addr) (xs : List Int) (L cap : Nat) (w : World) (hL : L = xs.length) (h1 : L ≤ cap) (h2 : cap ≤ 9223372036854775807) (hc : ∀ i u, (xs.map (Value.int .i64))[i]? = some u → w.cell? (x.add i) = some u) :
    Calls Tryz.prog 102 #[.slice (some x) L cap] w fun e w' => e = .returned (.int .i64 (firstNZ xs)) ∧ w' = w := by
  have HL := Lib.hid hL
  have HC := Lib.hid hc
  clear hL hc
  go_enter Tryz.func102, Tryz.ntmps102
  go_wp2_with fail
  go_loopw [5, 8] (fun _ i wr => ∃ j : Nat, j ≤ L ∧ i = .int .i64 j ∧ firstNZ xs = firstNZ (xs.drop j) ∧ wr = w) (fun _ i _ => L - (intOf i).toNat)
  case atStart => exact ⟨0, Nat.zero_le _, rfl, rfl, rfl⟩
  case round =>
    obtain ⟨j, hj, rfl, hf, rfl⟩ := hrel
    have HF := Lib.hid hf
    clear hf
    by_cases hlt : j < L
    · have hjl : j < xs.length := by have := HL.out; omega
      have hc := HC.out j (.int .i64 xs[j]) (by rw [List.getElem?_map, List.getElem?_eq_getElem hjl]; rfl)
      have HD := Lib.hid (show firstNZ (xs.drop j) = if xs[j] = 0 then firstNZ (xs.drop (j + 1)) else xs[j] by rw [List.drop_eq_getElem_cons hjl]; rfl)
      generalize xs[j] = c at hc HD
      by_cases h0 : c = 0
      · subst h0
        have HE := Lib.hid (show firstNZ (xs.drop j) = firstNZ (xs.drop (j + 1)) by rw [HD.out, if_pos rfl])
        clear HD
        go_wp2_with fail
        go_roundw
        case rel => exact ⟨j + 1, by omega, by go_num, by rw [HF.out, HE.out], trivial⟩
        case measure => simp [intOf]; omega
      · have HE := Lib.hid (show firstNZ (xs.drop j) = c by rw [HD.out, if_neg h0])
        have hq : (c == 0) = false := beq_eq_false_iff_ne.2 h0
        clear HD h0
        go_wp2_with fail
        go_ret
        exact ⟨by rw [HF.out, HE.out]; rfl, rfl⟩
    · have hjL : xs.drop j = [] := List.drop_eq_nil_of_le (by have := HL.out; omega)
      have HE := Lib.hid (show firstNZ xs = 0 by rw [HF.out, hjL]; rfl)
      clear hjL
      go_wp2_with fail
      go_ret
      exact ⟨by rw [HE.out]; rfl, rfl⟩

theorem cmpV_firstNZ (a b : V) : cmpV a b = firstNZ [cmpN a.k b.k, cmpN a.n b.n, cmpB a.s b.s] := by
  unfold cmpV
  simp only [firstNZ]
  by_cases hk : a.k = b.k
  · rw [if_pos hk, if_pos (cmpN_zero.2 hk)]
    by_cases hn : a.n = b.n
    · rw [if_pos hn, if_pos (cmpN_zero.2 hn)]
      split
      · assumption
      · rfl
    · rw [if_neg hn, if_neg (fun h => hn (cmpN_zero.1 h))]
  · rw [if_neg hk, if_neg (fun h => hk (cmpN_zero.1 h))]

set_option maxRecDepth 100000 in
set_option maxHeartbeats 1000000 in
theorem Compare_any (a b : V) (_ha : a.fits) (_hb : b.fits) (_hal : a.s.length ≤ 5000) (_hbl : b.s.length ≤ 5000) (w : World) :
    Calls Tryz.prog 77 #[a.val, b.val] w fun e w' => e = .returned (.int .i64 (cmpV a b)) ∧ Ext w w' := by
  rw [cmpV_firstNZ]
  clear _ha _hb _hal _hbl
  obtain ⟨k, n, s⟩ := a
  obtain ⟨k', n', s'⟩ := b
  unfold V.val
  simp only
  have H1 := Lib.hid (pCompare_u8 k k')
  have H2 := Lib.hid (pCompare_int n n')
  have H3 := Lib.hid (pCompare_text s s')
  generalize cmpN k k' = x1 at H1 ⊢
  generalize cmpN n n' = x2 at H2 ⊢
  generalize cmpB s s' = x3 at H3 ⊢
  go_enter Tryz.func77, Tryz.ntmps77
  go_wp2_with fail
  have HX := Lib.hid (ext_two w (.cells #[.int .u8 k, .int .i64 n, .string ⟨s.toArray⟩] 36) (.cells #[.int .u8 k', .int .i64 n', .string ⟨s'.toArray⟩] 36))
  have ha := cells_two0 w [.int .u8 k, .int .i64 n, .string ⟨s.toArray⟩] [.int .u8 k', .int .i64 n', .string ⟨s'.toArray⟩] 36
  have hb := cells_two1 w [.int .u8 k, .int .i64 n, .string ⟨s.toArray⟩] [.int .u8 k', .int .i64 n', .string ⟨s'.toArray⟩] 36
  generalize (w.alloc (.cells #[.int .u8 k, .int .i64 n, .string ⟨s.toArray⟩] 36)).alloc (.cells #[.int .u8 k', .int .i64 n', .string ⟨s'.toArray⟩] 36) = W at ha hb HX ⊢
  have ha0 := later_cell ha 0 _ rfl
  have ha1 := later_cell ha 1 _ rfl
  have ha2 := later_cell ha 2 _ rfl
  have hb0 := later_cell hb 0 _ rfl
  have hb1 := later_cell hb 1 _ rfl
  have hb2 := later_cell hb 2 _ rfl
  clear ha hb
  refine wp_region_segs Ext Ext.keeps [([0, 1, 2, 3, 5, 6, 7, 8, 10, 11, 12, 13], some 4), ([], some 9), ([], some 14), ([], some 15), ([], some 16), ([17], none)] (by kernel_rfl) (by kernel_rfl) (fun c a a' w e h => (by exact ⟨e ▸ h.1, h.2⟩)) ?_
  simp only [pickSegs, pickOps, List.map_cons, List.map_nil, Option.map_some, Option.map_none, Option.getD_some, List.getElem?_toArray, List.getElem?_cons_zero, List.getElem?_cons_succ]
  refine wpSegs_some fun K hK => ?_
  repeat go_big_quiet_step (fail)
  refine wpQuiet_nil ?_
  clear ha0 ha1 ha2 hb0 hb1 hb2
  go_wp2_with fail
  refine (H1.out _).mono ?_
  rintro e w2 ⟨rfl, rfl⟩
  go_wp2_with fail
  refine ⟨Ext.keeps.refl _, hK _ _ ?_⟩
  clear hK K
  refine wpSegs_some fun K hK => ?_
  refine wpQuiet_nil ?_
  go_wp2_with fail
  refine (H2.out _).mono ?_
  rintro e w2 ⟨rfl, rfl⟩
  go_wp2_with fail
  refine ⟨Ext.keeps.refl _, hK _ _ ?_⟩
  clear hK K
  refine wpSegs_some fun K hK => ?_
  refine wpQuiet_nil ?_
  go_wp2_with fail
  refine (H3.out _).mono ?_
  rintro e w2 ⟨rfl, rfl⟩
  go_wp2_with fail
  refine ⟨Ext.keeps.refl _, hK _ _ ?_⟩
  clear hK K
  refine wpSegs_some fun K hK => ?_
  refine wpQuiet_nil ?_
  go_wp2_with fail
  have HO := Lib.hid (pOr_any ⟨W.heap.size, 0, none⟩ [x1, x2, x3] 3 3 (W.drew.alloc (.cells #[.int .i64 x1, .int .i64 x2, .int .i64 x3] 3)) rfl (by decide) (by decide) (fun i u hu => by rw [add_at, Nat.zero_add]; exact new_cell W.drew [.int .i64 x1, .int .i64 x2, .int .i64 x3] 3 i u hu))
  have HY := Lib.hid (ext_one W.drew (.cells #[.int .i64 x1, .int .i64 x2, .int .i64 x3] 3))
  rw [show (W.alloc (.cells #[.int .i64 x1, .int .i64 x2, .int .i64 x3] 3)).drew = W.drew.alloc (.cells #[.int .i64 x1, .int .i64 x2, .int .i64 x3] 3) from rfl]
  rw [show (⟨W.heap.size, 0, none⟩ : Addr) = ⟨W.drew.heap.size, 0, none⟩ from rfl] at HO
  generalize W.drew.alloc (.cells #[.int .i64 x1, .int .i64 x2, .int .i64 x3] 3) = W2 at HY HO ⊢
  refine ⟨HY.out, hK _ _ ?_⟩
  clear hK K
  refine wpSegs_some fun K hK => ?_
  refine wpQuiet_nil ?_
  go_wp2_with fail
  refine HO.out.mono ?_
  rintro e w2 ⟨rfl, rfl⟩
  go_wp2_with fail
  refine ⟨Ext.keeps.refl _, hK _ _ ?_⟩
  clear hK K
  refine wpSegs_none ?_
  repeat go_big_quiet_step (fail)
  refine wpQuiet_nil (wpSegs_nil ?_)
  go_wp2_with fail
  go_ret
  exact ⟨rfl, Ext.trans HX.out (Ext.trans (Ext.drew _) HY.out)⟩

theorem pEitherNull_any (a b : V) (w : World) :
    Calls Tryz.prog 85 #[a.val, b.val] w fun e w' => e = .returned (.bool (decide (a.k = 0 ∨ b.k = 0))) ∧ Ext w w' := by
  obtain ⟨k, n, s⟩ := a
  obtain ⟨k', n', s'⟩ := b
  unfold V.val
  simp only
  by_cases h : k = 0
  · subst h
    rw [decide_eq_true (.inl rfl)]
    go_enter Tryz.func85, Tryz.ntmps85
    go_wp2_with fail
    go_ret
    exact ⟨rfl, ext_two w _ _⟩
  · have q : (k == 0) = false := beq_eq_false_iff_ne.2 h
    by_cases h' : k' = 0
    · subst h'
      rw [decide_eq_true (.inr rfl)]
      clear h
      go_enter Tryz.func85, Tryz.ntmps85
      go_wp2_with fail
      go_ret
      exact ⟨rfl, ext_two w _ _⟩
    · have q' : (k' == 0) = false := beq_eq_false_iff_ne.2 h'
      rw [decide_eq_false (by rintro (e | e) <;> contradiction)]
      clear h h'
      go_enter Tryz.func85, Tryz.ntmps85
      go_wp2_with fail
      go_ret
      exact ⟨rfl, ext_two w _ _⟩

theorem pTruth_any (b : Bool) (w : World) : Calls Tryz.prog 86 #[.bool b] w fun e w' => e = .returned (.int .u8 (if b = true then 2 else 0)) ∧ w' = w := by
  cases b with
  | true =>
    go_enter Tryz.func86, Tryz.ntmps86
    go_wp2_with fail
    go_ret
    exact ⟨rfl, rfl⟩
  | false =>
    go_enter Tryz.func86, Tryz.ntmps86
    go_wp2_with fail
    go_ret
    exact ⟨rfl, rfl⟩

set_option maxRecDepth 100000 in
theorem Equal_any (a b : V) (ha : a.fits) (hb : b.fits) (hal : a.s.length ≤ 5000) (hbl : b.s.length ≤ 5000) (w : World) :
    Calls Tryz.prog 61 #[a.val, b.val] w fun e w' => e = .returned (.int .u8 (equalT a b)) ∧ Ext w w' := by
  have HN := Lib.hid (pEitherNull_any a b)
  have HC := Lib.hid (fun w => Compare_any a b ha hb hal hbl w)
  have hT : equalT a b = if decide (a.k = 0 ∨ b.k = 0) = true then 1 else if decide (cmpV a b = 0) = true then 2 else 0 := by
    unfold equalT knownT
    simp only [decide_eq_true_eq]
  rw [hT]
  clear hT ha hb hal hbl
  generalize decide (a.k = 0 ∨ b.k = 0) = N at HN ⊢
  generalize cmpV a b = C at HC ⊢
  obtain ⟨k, n, s⟩ := a
  obtain ⟨k', n', s'⟩ := b
  unfold V.val at HN HC ⊢
  simp only at HN HC ⊢
  have HV0 := Lib.hid (cells_two0 w [.int .u8 k, .int .i64 n, .string ⟨s.toArray⟩] [.int .u8 k', .int .i64 n', .string ⟨s'.toArray⟩] 36)
  have HV1 := Lib.hid (cells_two1 w [.int .u8 k, .int .i64 n, .string ⟨s.toArray⟩] [.int .u8 k', .int .i64 n', .string ⟨s'.toArray⟩] 36)
  have HX := Lib.hid (ext_two w (.cells #[.int .u8 k, .int .i64 n, .string ⟨s.toArray⟩] 36) (.cells #[.int .u8 k', .int .i64 n', .string ⟨s'.toArray⟩] 36))
  cases N with
  | true =>
    rw [if_pos rfl]
    go_enter Tryz.func61, Tryz.ntmps61
    go_wp2_with fail
    refine (HN.out _).mono ?_
    rintro e w2 ⟨rfl, hb⟩
    have HB := Lib.hid (Ext.trans HX.out hb)
    have ha := kept_cell HV0.out hb
    have hb := kept_cell HV1.out hb
    have ha0 := ha 0 _ rfl
    have ha1 := ha 1 _ rfl
    have ha2 := ha 2 _ rfl
    have hb0 := hb 0 _ rfl
    have hb1 := hb 1 _ rfl
    have hb2 := hb 2 _ rfl
    clear ha hb
    go_wp2_with fail
    go_ret
    exact ⟨rfl, HB.out⟩
  | false =>
    rw [if_neg (by decide)]
    obtain ⟨B, hB⟩ : ∃ B, decide (C = 0) = B := ⟨_, rfl⟩
    rw [hB]
    have HT := Lib.hid (pTruth_any B)
    generalize (if B = true then 2 else 0 : Int) = R at HT ⊢
    have HBD := Lib.hid hB
    clear hB
    go_enter Tryz.func61, Tryz.ntmps61
    go_wp2_with fail
    refine (HN.out _).mono ?_
    rintro e w2 ⟨rfl, hb⟩
    have HB := Lib.hid (Ext.trans HX.out hb)
    have ha := kept_cell HV0.out hb
    have hb := kept_cell HV1.out hb
    have ha0 := ha 0 _ rfl
    have ha1 := ha 1 _ rfl
    have ha2 := ha 2 _ rfl
    have hb0 := hb 0 _ rfl
    have hb1 := hb 1 _ rfl
    have hb2 := hb 2 _ rfl
    clear ha hb
    go_wp2_with fail
    refine (HC.out _).mono ?_
    rintro e w3 ⟨rfl, hb⟩
    have HB3 := Lib.hid (Ext.trans HB.out hb)
    clear hb ha0 ha1 ha2 hb0 hb1 hb2
    have hB := HBD.out
    replace hB : (C == 0) = B := by rw [← hB]; rfl
    go_wp2_with fail
    refine (HT.out _).mono ?_
    rintro e w4 ⟨rfl, rfl⟩
    go_wp2_with fail
    go_ret
    exact ⟨rfl, HB3.out⟩

set_option maxRecDepth 100000 in
theorem Less_any (a b : V) (ha : a.fits) (hb : b.fits) (hal : a.s.length ≤ 5000) (hbl : b.s.length ≤ 5000) (w : World) :
    Calls Tryz.prog 62 #[a.val, b.val] w fun e w' => e = .returned (.int .u8 (lessT a b)) ∧ Ext w w' := by
  have HN := Lib.hid (pEitherNull_any a b)
  have HC := Lib.hid (fun w => Compare_any a b ha hb hal hbl w)
  have hT : lessT a b = if decide (a.k = 0 ∨ b.k = 0) = true then 1 else if decide (cmpV a b < 0) = true then 2 else 0 := by
    unfold lessT knownT
    simp only [decide_eq_true_eq]
  rw [hT]
  clear hT ha hb hal hbl
  generalize decide (a.k = 0 ∨ b.k = 0) = N at HN ⊢
  generalize cmpV a b = C at HC ⊢
  obtain ⟨k, n, s⟩ := a
  obtain ⟨k', n', s'⟩ := b
  unfold V.val at HN HC ⊢
  simp only at HN HC ⊢
  have HV0 := Lib.hid (cells_two0 w [.int .u8 k, .int .i64 n, .string ⟨s.toArray⟩] [.int .u8 k', .int .i64 n', .string ⟨s'.toArray⟩] 36)
  have HV1 := Lib.hid (cells_two1 w [.int .u8 k, .int .i64 n, .string ⟨s.toArray⟩] [.int .u8 k', .int .i64 n', .string ⟨s'.toArray⟩] 36)
  have HX := Lib.hid (ext_two w (.cells #[.int .u8 k, .int .i64 n, .string ⟨s.toArray⟩] 36) (.cells #[.int .u8 k', .int .i64 n', .string ⟨s'.toArray⟩] 36))
  cases N with
  | true =>
    rw [if_pos rfl]
    go_enter Tryz.func62, Tryz.ntmps62
    go_wp2_with fail
    refine (HN.out _).mono ?_
    rintro e w2 ⟨rfl, hb⟩
    have HB := Lib.hid (Ext.trans HX.out hb)
    have ha := kept_cell HV0.out hb
    have hb := kept_cell HV1.out hb
    have ha0 := ha 0 _ rfl
    have ha1 := ha 1 _ rfl
    have ha2 := ha 2 _ rfl
    have hb0 := hb 0 _ rfl
    have hb1 := hb 1 _ rfl
    have hb2 := hb 2 _ rfl
    clear ha hb
    go_wp2_with fail
    go_ret
    exact ⟨rfl, HB.out⟩
  | false =>
    rw [if_neg (by decide)]
    obtain ⟨B, hB⟩ : ∃ B, decide (C < 0) = B := ⟨_, rfl⟩
    rw [hB]
    have HT := Lib.hid (pTruth_any B)
    generalize (if B = true then 2 else 0 : Int) = R at HT ⊢
    have HBD := Lib.hid hB
    clear hB
    go_enter Tryz.func62, Tryz.ntmps62
    go_wp2_with fail
    refine (HN.out _).mono ?_
    rintro e w2 ⟨rfl, hb⟩
    have HB := Lib.hid (Ext.trans HX.out hb)
    have ha := kept_cell HV0.out hb
    have hb := kept_cell HV1.out hb
    have ha0 := ha 0 _ rfl
    have ha1 := ha 1 _ rfl
    have ha2 := ha 2 _ rfl
    have hb0 := hb 0 _ rfl
    have hb1 := hb 1 _ rfl
    have hb2 := hb 2 _ rfl
    clear ha hb
    go_wp2_with fail
    refine (HC.out _).mono ?_
    rintro e w3 ⟨rfl, hb⟩
    have HB3 := Lib.hid (Ext.trans HB.out hb)
    clear hb ha0 ha1 ha2 hb0 hb1 hb2
    have hB := HBD.out
    go_wp2_with fail
    refine (HT.out _).mono ?_
    rintro e w4 ⟨rfl, rfl⟩
    go_wp2_with fail
    go_ret
    exact ⟨rfl, HB3.out⟩

end Go.Proofs.YtfnmcdjfdhdlmaaGreatDoor

/-
  What Put and Take leave; rows of values as arguments.
-/
namespace Go.Proofs.YtfnmcdjfdhdlmaaGreatDoor
open Go.RowKit

/-- A slice of bytes in memory of one's own. -/
def OwnL (base : Nat) (w : World) (v : Value) (l : List UInt8) : Prop :=
  (v = .slice none 0 0 ∧ l = []) ∨ ∃ g off cap, v = .slice (some ⟨g, off, none⟩) l.length cap ∧ base ≤ g ∧ l.length ≤ cap ∧ cap ≤ maxLen ∧ (∀ i u, (l.map bv)[i]? = some u → w.cell? ⟨g, off + i, none⟩ = some u) ∧ ∀ i, w.frozen? ⟨g, i, none⟩ = false
theorem OwnL.rd {base : Nat} {w : World} {v : Value} {l : List UInt8} (h : OwnL base w v l) : Rd w v l := by
  rcases h with ⟨rfl, rfl⟩ | ⟨g, off, cap, rfl, _, h2, h3, h4, _⟩
  · exact Rd.nil w
  · exact .inr ⟨_, cap, by rw [List.length_map], by rw [List.length_map]; exact h2, h3, fun i u hu => by rw [add_at]; exact h4 i u hu⟩
theorem OwnL.of_owns {base : Nat} {w : World} {v : Value} {l : List UInt8} (h : w.ownsRow base 5 1 v l.length (l.map bv)) : OwnL base w v l := by
  rcases h.2 with ⟨h1, h2⟩ | ⟨g, cap, cur, rfl, h2, h3, h4, h5, _⟩
  · exact .inl ⟨h1, List.length_eq_zero_iff.1 h2⟩
  · exact .inr ⟨g, 0, cap, rfl, h2, h4, h5, fun i u hu => by
      have := h.cells (g := g) rfl i u hu
      rw [add_at] at this
      exact this, h.frozenAt⟩

/-- What a call leaves that takes a value of bytes. -/
def Took (w : World) (l : List UInt8) (e : Ending) (w' : World) : Prop :=
  ((∃ v m r, takeV l = some (v, m) ∧ e = .returned (.tuple #[v.val, r, .int .i64 0]) ∧ OwnL w.heap.size w' r m) ∨
   (takeV l = none ∧ e = .returned (.tuple #[.agg #[.int .u8 0, .int .i64 0, .string ⟨#[]⟩], .slice none 0 0, .int .i64 6]))) ∧ Ext w w'

/-- .. of the document's own: what is left is only read. -/
def RefTook (w : World) (l : List UInt8) (e : Ending) (w' : World) : Prop :=
  ((∃ v m r, takeV l = some (v, m) ∧ e = .returned (.tuple #[v.val, r, .int .i64 0]) ∧ Rd w' r m) ∨
   (takeV l = none ∧ e = .returned (.tuple #[.agg #[.int .u8 0, .int .i64 0, .string ⟨#[]⟩], .slice none 0 0, .int .i64 6]))) ∧ Ext w w'

/-- A row of bytes of one's own, whatever they are, in a block from base on, below hi. -/
def OwnA (base hi : Nat) (w : World) (v : Value) (n : Nat) : Prop :=
  ∃ a cap, v = .slice a n cap ∧ n ≤ cap ∧ cap ≤ maxLen ∧ hi ≤ w.heap.size ∧ (0 < n → ∃ g off, a = some ⟨g, off, none⟩ ∧ base ≤ g ∧ g < hi ∧ (∀ i, i < n → ∃ z : Int, w.cell? ⟨g, off + i, none⟩ = some (.int .u8 z)) ∧ ∀ i, w.frozen? ⟨g, i, none⟩ = false)
theorem OwnA.of_own {base : Nat} {w : World} {v : Value} {l : List UInt8} (h : OwnL base w v l) : OwnA base w.heap.size w v l.length := by
  rcases h with ⟨rfl, rfl⟩ | ⟨g, off, cap, rfl, h1, h2, h3, h4, h5⟩
  · exact ⟨none, 0, rfl, Nat.le_refl _, by simp [maxLen], Nat.le_refl _, fun h => by simp at h⟩
  · refine ⟨_, cap, rfl, h2, h3, Nat.le_refl _, fun hn => ⟨g, off, rfl, h1, ?_, fun i hi => ?_, h5⟩⟩
    · have := h4 0 (bv (l[0]'hn)) (by rw [List.getElem?_map, List.getElem?_eq_getElem hn]; rfl)
      exact lt_of_cell this
    · exact ⟨_, h4 i (bv (l[i]'hi)) (by rw [List.getElem?_map, List.getElem?_eq_getElem hi]; rfl)⟩
theorem frozen_ext {w w' : World} {N : Nat} (hb : Below N w w') {g i : Nat} (hg : g < N) : w'.frozen? ⟨g, i, none⟩ = w.frozen? ⟨g, i, none⟩ := by
  unfold World.frozen?
  rw [hb.block g hg]
theorem OwnA.mono {base hi : Nat} {w w' : World} {v : Value} {n : Nat} (h : OwnA base hi w v n) (hb : Below hi w w') : OwnA base hi w' v n := by
  obtain ⟨a, cap, h1, h2, h3, h0, h4⟩ := h
  refine ⟨a, cap, h1, h2, h3, Nat.le_trans h0 hb.size, fun hn => ?_⟩
  obtain ⟨g, off, rfl, k1, k2, k3, k4⟩ := h4 hn
  refine ⟨g, off, rfl, k1, k2, fun i hi => ?_, fun i => by rw [frozen_ext hb k2]; exact k4 i⟩
  obtain ⟨z, hz⟩ := k3 i hi
  exact ⟨z, by rw [hb.cell (p := ⟨g, off + i, none⟩) k2]; exact hz⟩
theorem OwnA.put {base hi g off n cap j : Nat} {w : World} (h : OwnA base hi w (.slice (some ⟨g, off, none⟩) n cap) n) (hj : j < n) (z : Int) : OwnA base hi (w.setCell ⟨g, off + j, none⟩ (.int .u8 z)) (.slice (some ⟨g, off, none⟩) n cap) n ∧ base ≤ g ∧ g < hi := by
  obtain ⟨a, cap', h1, h2, h3, h0, h4⟩ := h
  obtain ⟨g', off', h5, k1, k2, k3, k4⟩ := h4 (by omega)
  simp only [Value.slice.injEq] at h1
  obtain ⟨h1a, _, h1c⟩ := h1
  rw [h5] at h1a
  simp only [Option.some.injEq, Addr.mk.injEq, and_true] at h1a
  obtain ⟨rfl, rfl⟩ := h1a
  subst h1c
  refine ⟨⟨_, cap, rfl, h2, h3, by simpa [World.setCell] using h0, fun _ => ⟨g, off, rfl, k1, k2, fun i hi => ?_, fun i => by simpa [go_sem] using k4 i⟩⟩, k1, k2⟩
  obtain ⟨z', hz'⟩ := k3 i hi
  by_cases e : i = j
  · subst e
    exact ⟨z, World.cell?_setCell_same _ _ _ hz'⟩
  · refine ⟨z', ?_⟩
    rw [World.cell?_setCell_other]
    · exact hz'
    · intro hh
      simp only [Addr.mk.injEq, and_true, true_and] at hh
      omega
/-- A place of it: that it is there, and may be set. -/
theorem OwnA.at {base hi n cap j : Nat} {w : World} {a : Option Addr} (h : OwnA base hi w (.slice a n cap) n) (hj : j < n) : ∃ g off z, a = some ⟨g, off, none⟩ ∧ w.cell? ⟨g, off + j, none⟩ = some (.int .u8 z) ∧ w.frozen? ⟨g, off + j, none⟩ = false := by
  obtain ⟨a', cap', h1, h2, h3, h0, h4⟩ := h
  obtain ⟨g', off', h5, k1, k2, k3, k4⟩ := h4 (by omega)
  simp only [Value.slice.injEq] at h1
  obtain ⟨z, hz⟩ := k3 j hj
  exact ⟨g', off', z, by rw [h1.1, h5], hz, k4 _⟩

end Go.Proofs.YtfnmcdjfdhdlmaaGreatDoor

/-
  The contracts of octets' encoders: Num, Int, Text and what they call.
-/
namespace Go.Proofs.YtfnmcdjfdhdlmaaGreatDoor
open Go.RowKit


theorem or_one (x : Int) (h0 : 0 ≤ x) (h1 : x ≤ 9223372036854775807) : bits BinOp.or IntKind.u64 (x * 2) 1 = x * 2 + 1 := u64_or_low x 1 1 h0 (by omega) (by omega) (by omega)

/-- What putNum has appended when j bytes are still to come. -/
def cur (l : List UInt8) (n j : Nat) : List UInt8 := l ++ UInt8.ofNat (247 + nb n) :: (be (nb n) n).take (nb n - j)

theorem bv_shift (n m : Nat) : bv (UInt8.ofNat (n / 256 ^ m)) = Value.int .u8 ((n : Int) / 2 ^ (8 * m) % 256) := by
  have e : (256 : Nat) ^ m = 2 ^ (8 * m) := by rw [Nat.pow_mul]
  unfold bv
  rw [e, UInt8.toNat_ofNat']
  congr 1

theorem cur_top (l : List UInt8) (n : Nat) : cur l n (nb n) = l ++ [UInt8.ofNat (247 + nb n)] := by simp [cur]
theorem cur_zero (l : List UInt8) (n : Nat) (h : 248 ≤ n) : cur l n 0 = l ++ enc n := by
  unfold cur enc
  rw [if_neg (by omega), List.take_of_length_le (by rw [be_length]; omega)]
theorem cur_snoc (l : List UInt8) (n j : Nat) (h : j < nb n) : cur l n j = cur l n (j + 1) ++ [UInt8.ofNat (n / 256 ^ j)] := by
  unfold cur
  rw [be_take_snoc (nb n) j n h]
  simp
theorem cur_length (l : List UInt8) (n j : Nat) (h : j ≤ nb n) : (cur l n j).length + j ≤ l.length + 9 := by
  have := nb_le n
  simp [cur, be_length]
  omega

end Go.Proofs.YtfnmcdjfdhdlmaaGreatDoor

/-
  The contracts of the document's own encoders: warpref01.Num, Int, Text.
-/
namespace Go.Proofs.YtfnmcdjfdhdlmaaGreatDoor
open Go.RowKit

theorem div_more (n j : Nat) : n / 256 ^ j / 256 = n / 256 ^ (j + 1) := by rw [Nat.div_div_eq_div_mul, Nat.pow_succ]

/-- All bytes of n have been taken when nothing is left of it. -/
theorem all_taken (n j : Nat) (_hn : n < 2 ^ 64) (h0 : n ≠ 0) (hj : j ≤ nb n) (hq : n / 256 ^ j = 0) : j = nb n := by
  have h1 := nb_ge n h0
  by_cases h : j = nb n
  · exact h
  · have h2 := Nat.pow_le_pow_right (show 0 < 256 by decide) (show j ≤ nb n - 1 by omega)
    have := Nat.div_eq_zero_iff.1 hq
    have hp : 0 < 256 ^ j := Nat.pow_pos (by decide)
    omega

theorem more_left (n j : Nat) (hn : n < 2 ^ 64) (hj : j ≤ nb n) (hq : n / 256 ^ j ≠ 0) : j + 1 ≤ nb n := by
  have h1 := nb_lt n hn
  by_cases h : j = nb n
  · subst h; exact absurd (Nat.div_eq_of_lt h1) hq
  · omega


end Go.Proofs.YtfnmcdjfdhdlmaaGreatDoor
