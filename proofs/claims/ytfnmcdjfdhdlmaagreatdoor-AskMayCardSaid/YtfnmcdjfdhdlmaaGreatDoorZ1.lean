/-
  Texts of this proof, merged: Val, Base, Pure, ValBytes, Tk.
-/
import Derived.WalkKit
import Derived.Sort.Walk0
import Derived.WalkSpells
import Derived.WalkLawsBesides
import Derived.Lib.Hide
import Derived.Laws.BytesArg
import Derived.Laws.AppendOwnNone
import Derived.Laws.IdiomStrings
import Derived.Lib.BitFns
/-
  Values, their order, truths: over numbers and lists of bytes. No program.
-/
namespace Go.Proofs.YtfnmcdjfdhdlmaaGreatDoor
open Go.RowKit

/-- A value. -/
structure V where
  k : Int
  n : Int
  s : List UInt8
deriving DecidableEq

def V.zero : V := ⟨0, 0, []⟩
/-- As a value of the model. -/
def V.val (v : V) : Value := .agg #[.int .u8 v.k, .int .i64 v.n, .string ⟨v.s.toArray⟩]
def V.cells (v : V) : List Value := [.int .u8 v.k, .int .i64 v.n, .string ⟨v.s.toArray⟩]
/-- What may come in. -/
structure V.fits (v : V) : Prop where
  k0 : 0 ≤ v.k
  k1 : v.k ≤ 255
  lo : -9223372036854775808 ≤ v.n
  hi : v.n ≤ 9223372036854775807

/-- Which values may be. -/
def rightV (v : V) : Bool :=
  (decide (v.k = 0) && decide (v.n = 0) && decide (v.s = [])) || (decide (v.k = 1) && (decide (v.n = 0) || decide (v.n = 1)) && decide (v.s = [])) ||
  (decide (v.k = 2) && decide (v.s = [])) || (decide (v.k = 3) && decide (v.n = 0) && decide (v.s.length ≤ 1024))

theorem rightV_iff (v : V) : rightV v = true ↔ (v.k = 0 ∧ v.n = 0 ∧ v.s = []) ∨ (v.k = 1 ∧ (v.n = 0 ∨ v.n = 1) ∧ v.s = []) ∨ (v.k = 2 ∧ v.s = []) ∨ (v.k = 3 ∧ v.n = 0 ∧ v.s.length ≤ 1024) := by
  unfold rightV
  simp only [Bool.or_eq_true, Bool.and_eq_true, decide_eq_true_eq, and_assoc, or_assoc]

def cmpN (a b : Int) : Int := if a = b then 0 else if a < b then -1 else 1
def cmpB (a b : List UInt8) : Int := if a = b then 0 else if Op.bytesLess a b = true then -1 else 1
/-- How two values stand. -/
def cmpV (a b : V) : Int := if a.k = b.k then (if a.n = b.n then cmpB a.s b.s else cmpN a.n b.n) else cmpN a.k b.k

theorem cmpN_zero {a b : Int} : cmpN a b = 0 ↔ a = b := by unfold cmpN; split <;> (try split) <;> omega
theorem cmpN_neg (a b : Int) : cmpN b a = -cmpN a b := by unfold cmpN; repeat' split <;> try omega
theorem cmpN_three (a b : Int) : cmpN a b = -1 ∨ cmpN a b = 0 ∨ cmpN a b = 1 := by
  unfold cmpN
  split
  · exact .inr (.inl rfl)
  · split
    · exact .inl rfl
    · exact .inr (.inr rfl)
theorem cmpN_lt {a b : Int} : cmpN a b = -1 ↔ a < b := by
  unfold cmpN
  by_cases h : a = b
  · subst h; simp
  · rw [if_neg h]
    by_cases h2 : a < b
    · simp [h2]
    · simp [h2]

theorem less_iff (a b : List UInt8) : Op.bytesLess a b = true ↔ a < b := by rw [bytesLess_eq]; simp
theorem less_asymm {a b : List UInt8} (h : a < b) : ¬ b < a := List.not_lt.2 (List.le_of_lt h)

theorem cmpB_zero {a b : List UInt8} : cmpB a b = 0 ↔ a = b := by
  unfold cmpB
  by_cases h : a = b
  · simp [h]
  · rw [if_neg h]
    split <;> simp [h]
theorem cmpB_three (a b : List UInt8) : cmpB a b = -1 ∨ cmpB a b = 0 ∨ cmpB a b = 1 := by
  unfold cmpB
  split
  · exact .inr (.inl rfl)
  · split
    · exact .inl rfl
    · exact .inr (.inr rfl)
theorem cmpB_lt {a b : List UInt8} : cmpB a b = -1 ↔ a < b := by
  unfold cmpB
  by_cases h : a = b
  · subst h
    simp
  · rw [if_neg h]
    by_cases hl : Op.bytesLess a b = true
    · rw [if_pos hl]
      simp [(less_iff a b).1 hl]
    · rw [if_neg hl]
      simp only [less_iff] at hl
      simp [hl]
theorem less_total (a b : List UInt8) (h : a ≠ b) : a < b ∨ b < a := by
  rcases Classical.em (a < b) with h1 | h1
  · exact .inl h1
  · right
    rcases Classical.em (b < a) with h2 | h2
    · exact h2
    · exact absurd (List.le_antisymm (List.not_lt.1 h2) (List.not_lt.1 h1)) h
theorem cmpB_neg (a b : List UInt8) : cmpB b a = -cmpB a b := by
  by_cases h : a = b
  · subst h
    have := (cmpB_zero (a := a) (b := a)).2 rfl
    omega
  · rcases less_total a b h with hl | hl
    · have h1 := cmpB_lt.2 hl
      have h2 : cmpB b a ≠ -1 := fun e => less_asymm hl (cmpB_lt.1 e)
      have h3 : cmpB b a ≠ 0 := fun e => h (cmpB_zero.1 e).symm
      have := cmpB_three b a
      omega
    · have h1 := cmpB_lt.2 hl
      have h2 : cmpB a b ≠ -1 := fun e => less_asymm hl (cmpB_lt.1 e)
      have h3 : cmpB a b ≠ 0 := fun e => h (cmpB_zero.1 e)
      have := cmpB_three a b
      omega

theorem cmpV_zero {a b : V} : cmpV a b = 0 ↔ a = b := by
  obtain ⟨k, n, s⟩ := a
  obtain ⟨k', n', s'⟩ := b
  unfold cmpV
  simp only [V.mk.injEq]
  by_cases hk : k = k'
  · rw [if_pos hk]
    by_cases hn : n = n'
    · rw [if_pos hn, cmpB_zero]
      simp [hk, hn]
    · rw [if_neg hn, cmpN_zero]
      simp [hn]
  · rw [if_neg hk, cmpN_zero]
    simp [hk]
theorem cmpV_three (a b : V) : cmpV a b = -1 ∨ cmpV a b = 0 ∨ cmpV a b = 1 := by
  unfold cmpV
  split
  · split
    · exact cmpB_three _ _
    · exact cmpN_three _ _
  · exact cmpN_three _ _
theorem cmpV_neg (a b : V) : cmpV b a = -cmpV a b := by
  unfold cmpV
  by_cases hk : a.k = b.k
  · rw [if_pos hk, if_pos hk.symm]
    by_cases hn : a.n = b.n
    · rw [if_pos hn, if_pos hn.symm, cmpB_neg]
    · rw [if_neg hn, if_neg (Ne.symm hn), cmpN_neg]
  · rw [if_neg hk, if_neg (Ne.symm hk), cmpN_neg]
theorem cmpV_trans {a b c : V} (h1 : cmpV a b = -1) (h2 : cmpV b c = -1) : cmpV a c = -1 := by
  unfold cmpV at *
  by_cases hk : a.k = b.k
  · by_cases hk2 : b.k = c.k
    · rw [if_pos hk] at h1
      rw [if_pos hk2] at h2
      rw [if_pos (hk.trans hk2)]
      by_cases hn : a.n = b.n
      · by_cases hn2 : b.n = c.n
        · rw [if_pos hn] at h1
          rw [if_pos hn2] at h2
          rw [if_pos (hn.trans hn2)]
          exact cmpB_lt.2 (List.lt_trans (cmpB_lt.1 h1) (cmpB_lt.1 h2))
        · rw [if_neg hn2] at h2
          rw [if_neg (by rw [hn]; exact hn2), hn]
          exact h2
      · rw [if_neg hn] at h1
        have l1 := cmpN_lt.1 h1
        by_cases hn2 : b.n = c.n
        · rw [if_neg (by rw [← hn2]; exact hn), ← hn2]
          exact h1
        · rw [if_neg hn2] at h2
          have l2 := cmpN_lt.1 h2
          rw [if_neg (by omega)]
          exact cmpN_lt.2 (by omega)
    · rw [if_neg hk2] at h2
      rw [if_neg (by rw [hk]; exact hk2), hk]
      exact h2
  · rw [if_neg hk] at h1
    have l1 := cmpN_lt.1 h1
    by_cases hk2 : b.k = c.k
    · rw [if_neg (by rw [← hk2]; exact hk), ← hk2]
      exact h1
    · rw [if_neg hk2] at h2
      have l2 := cmpN_lt.1 h2
      rw [if_neg (by omega)]
      exact cmpN_lt.2 (by omega)

/-- The law of the order, of any three. -/
theorem cmpV_law (a b c : V) : (0 < cmpV a b ∨ 0 < cmpV b c) ∨ (cmpV a c ≤ 0 ∧ ((cmpV a b = 0 ∧ cmpV b c = 0) ∨ cmpV a c < 0)) := by
  rcases cmpV_three a b with h | h | h
  · rcases cmpV_three b c with h2 | h2 | h2
    · have := cmpV_trans h h2
      omega
    · have e := cmpV_zero.1 h2
      subst e
      omega
    · omega
  · have e := cmpV_zero.1 h
    subst e
    have := cmpV_three a c
    omega
  · omega

/-! ### Truths -/

def tr (a : Int) : Int := if 2 < a then 1 else a
theorem tr_three {a : Int} (h : 0 ≤ a) : tr a = 0 ∨ tr a = 1 ∨ tr a = 2 := by unfold tr; split <;> omega
def andT (a b : Int) : Int := min (tr a) (tr b)
def orT (a b : Int) : Int := max (tr a) (tr b)
def notT (a : Int) : Int := 2 - tr a

/-- What is known of two values. -/
def knownT (a b : V) (is : Bool) : Int := if a.k = 0 ∨ b.k = 0 then 1 else if is = true then 2 else 0
def equalT (a b : V) : Int := knownT a b (decide (cmpV a b = 0))
def lessT (a b : V) : Int := knownT a b (decide (cmpV a b < 0))

/-! ### Rows of values in memory -/

/-- A slice reads as these values. -/
def RdVals (w : World) (u : Value) (vs : List V) : Prop :=
  ∃ ao cap, u = .slice ao vs.length cap ∧ vs.length ≤ cap ∧ cap ≤ maxLen ∧ ∀ j, (hj : j < vs.length) → ∃ g off, ao = some ⟨g, off, none⟩ ∧ ∀ i y, (vs[j].cells)[i]? = some y → w.cell? ⟨g, off + j * 3 + i, none⟩ = some y

/-- A slice reads as these rows of values. -/
def RdRows (w : World) (u : Value) (rs : List (List V)) : Prop :=
  ∃ ao cap, u = .slice ao rs.length cap ∧ rs.length ≤ cap ∧ cap ≤ maxLen ∧ ∀ j, (hj : j < rs.length) → ∃ x v, ao = some x ∧ RdVals w v rs[j] ∧ w.cell? (x.add j) = some v

theorem RdVals.mono {w w' : World} {u : Value} {vs : List V} (h : RdVals w u vs) (hb : Below w.heap.size w w') : RdVals w' u vs := by
  obtain ⟨ao, cap, h1, h2, h3, h4⟩ := h
  refine ⟨ao, cap, h1, h2, h3, fun j hj => ?_⟩
  obtain ⟨g, off, h5, h6⟩ := h4 j hj
  exact ⟨g, off, h5, fun i y hy => (hb.cell (World.block_lt_of_cell? w _ (h6 i y hy))).trans (h6 i y hy)⟩
theorem RdRows.mono {w w' : World} {u : Value} {rs : List (List V)} (h : RdRows w u rs) (hb : Below w.heap.size w w') : RdRows w' u rs := by
  obtain ⟨ao, cap, h1, h2, h3, h4⟩ := h
  refine ⟨ao, cap, h1, h2, h3, fun j hj => ?_⟩
  obtain ⟨x, v, h5, h6, h7⟩ := h4 j hj
  exact ⟨x, v, h5, h6.mono hb, (hb.cell (World.block_lt_of_cell? w _ h7)).trans h7⟩
theorem RdVals.nil (w : World) : RdVals w (.slice none 0 0) [] := ⟨none, 0, rfl, Nat.le_refl _, by simp [maxLen], fun j hj => by simp at hj⟩
theorem RdRows.nil (w : World) : RdRows w (.slice none 0 0) [] := ⟨none, 0, rfl, Nat.le_refl _, by simp [maxLen], fun j hj => by simp at hj⟩
theorem RdVals.shape {w : World} {u : Value} {vs : List V} (h : RdVals w u vs) : ∃ a cap, u = .slice a vs.length cap ∧ vs.length ≤ cap ∧ cap ≤ maxLen := by
  obtain ⟨a, cap, h1, h2, h3, _⟩ := h
  exact ⟨a, cap, h1, h2, h3⟩
theorem RdRows.shape {w : World} {u : Value} {rs : List (List V)} (h : RdRows w u rs) : ∃ a cap, u = .slice a rs.length cap ∧ rs.length ≤ cap ∧ cap ≤ maxLen := by
  obtain ⟨a, cap, h1, h2, h3, _⟩ := h
  exact ⟨a, cap, h1, h2, h3⟩

/-- What a row counts for. -/
def rowCost (vs : List V) : Int := 8 + ((vs.map fun v => 8 + v.s.length).sum : Nat)
def rowsCost (rs : List (List V)) : Int := (rs.map rowCost).sum

end Go.Proofs.YtfnmcdjfdhdlmaaGreatDoor

/-
  Words on slices of bytes and of numbers, as values of the model, that hold over any program: what a slice value reads as, and that it goes on reading so while old blocks stay as they are.
-/
namespace Go.Proofs.YtfnmcdjfdhdlmaaGreatDoor
open Go.RowKit

/-- A byte as a value. -/
def bv (c : UInt8) : Value := .int .u8 (c.toNat : Int)

/-- The slice value v (nil, or leading to cells) has these values as its elements (cells of one value each). -/
def RdV (w : World) (v : Value) (xs : List Value) : Prop :=
  (v = .slice none 0 0 ∧ xs = []) ∨
  ∃ x cap, v = .slice (some x) xs.length cap ∧ xs.length ≤ cap ∧ cap ≤ maxLen ∧ ∀ i u, xs[i]? = some u → w.cell? (x.add i) = some u

/-- The slice value v reads as these bytes. -/
def Rd (w : World) (v : Value) (l : List UInt8) : Prop := RdV w v (l.map bv)

theorem lt_of_cell {w : World} {a : Addr} {u : Value} (h : w.cell? a = some u) : a.block < w.heap.size := World.block_lt_of_cell? w a h

theorem RdV.mono {w w' : World} {v : Value} {xs : List Value} (h : RdV w v xs) (hb : Below w.heap.size w w') : RdV w' v xs := by
  rcases h with h | ⟨x, cap, h1, h2, h3, h4⟩
  · exact .inl h
  · refine .inr ⟨x, cap, h1, h2, h3, fun i u hu => ?_⟩
    have hc := h4 i u hu
    exact (hb.cell (lt_of_cell hc)).trans hc

theorem Rd.mono {w w' : World} {v : Value} {l : List UInt8} (h : Rd w v l) (hb : Below w.heap.size w w') : Rd w' v l := RdV.mono h hb

theorem RdV.nil (w : World) : RdV w (.slice none 0 0) [] := .inl ⟨rfl, rfl⟩
theorem Rd.nil (w : World) : Rd w (.slice none 0 0) [] := .inl ⟨rfl, rfl⟩

theorem add_zero (x : Addr) : x.add 0 = x := by unfold Addr.add; simp

/-- Where there is a cell the address is plain. -/
theorem plain_of {w : World} {x : Addr} {u : Value} (h : w.cell? x = some u) : ∃ b off, x = ⟨b, off, none⟩ ∧ b < w.heap.size := by
  obtain ⟨b, off, spot⟩ := x
  have hspot : spot = none := World.cell?_spot h
  subst hspot
  exact ⟨b, off, rfl, lt_of_cell h⟩

theorem add_at (b off i : Nat) : (⟨b, off, none⟩ : Addr).add i = ⟨b, off + i, none⟩ := by unfold Addr.add; split <;> simp_all

theorem RdV.of_owns {w : World} {base : Nat} {e : TypeId} {v : Value} {n : Nat} {xs : List Value} (h : w.ownsRow base e 1 v n xs) : RdV w v xs := by
  have hl : xs.length = n := by simpa using h.1
  have hc := fun g hg => h.cells (g := g) hg
  rcases h.2 with ⟨rfl, rfl⟩ | ⟨g, cap, cur, rfl, h1, h2, h3, h4, h5, h6⟩
  · have : xs = [] := List.length_eq_zero_iff.1 hl
    subst this
    exact RdV.nil w
  · exact .inr ⟨_, cap, by rw [hl], by omega, h4, fun i u hu => hc g rfl i u hu⟩

theorem RdV.takes {w : World} {x : Addr} {cap : Nat} {xs : List Value} (h2 : xs.length ≤ cap) (h3 : cap ≤ maxLen) (h4 : ∀ i u, xs[i]? = some u → w.cell? (x.add i) = some u) (n m : Nat) (hn : m = min n xs.length) : RdV w (.slice (some x) m cap) (xs.take n) := by
  subst hn
  refine .inr ⟨x, cap, by rw [List.length_take], by rw [List.length_take]; omega, h3, fun i u hu => h4 i u ?_⟩
  rw [List.getElem?_take] at hu
  split at hu
  · exact hu
  · cases hu

theorem Rd.shape {w : World} {v : Value} {l : List UInt8} (h : Rd w v l) : ∃ a cap, v = .slice a l.length cap ∧ l.length ≤ cap ∧ cap ≤ maxLen := by
  rcases h with ⟨rfl, h1⟩ | ⟨x, cap, rfl, h2, h3, _⟩
  · have : l = [] := by simpa using h1
    subst this
    exact ⟨none, 0, rfl, Nat.le_refl _, by simp [maxLen]⟩
  · rw [List.length_map] at *
    exact ⟨_, cap, rfl, h2, h3⟩
theorem add_block (x : Addr) (n : Nat) : (x.add n).block = x.block := by unfold Addr.add; split <;> rfl

theorem bv_oneCell (l : List UInt8) : ∀ u ∈ l.map bv, u.oneCell' = true := by
  intro u hu
  obtain ⟨c, _, rfl⟩ := List.mem_map.1 hu
  rfl

theorem strOfNums_bv (l : List UInt8) : strOfNums (l.map fun c => (c.toNat : Int)) = ⟨l.toArray⟩ := by
  have h : (l.map fun c => (c.toNat : Int)).map (fun n => UInt8.ofNat n.toNat) = l := by
    rw [List.map_map]
    conv => rhs; rw [← List.map_id l]
    apply List.map_congr_left
    intro c _
    simp
  unfold strOfNums
  rw [h]

/-- string(b). -/
theorem Rd.string {P : Program} {w : World} {v : Value} {l : List UInt8} (h : Rd w v l) (src dst e : TypeId) (hs : P.underlying src = some (.slice e)) (he : P.underlying e = some (.int .u8)) (hd : P.underlying dst = some .string) :
    (convert src dst v).run P w = .ok (.string ⟨l.toArray⟩) w := by
  rcases h with ⟨rfl, h1⟩ | ⟨x, cap, rfl, h2, h3, h4⟩
  · have : l = [] := by simpa using h1
    subst this
    rw [run_convert_bytes_nil (P := P) w src e hs he _ _ dst hd]; rfl
  · have hl : (loadCells x (l.map bv).length).run P w = .ok (((l.map fun c => (c.toNat : Int)).map (Value.int .u8)).toArray) w := by
      have := run_loadCells_list (P := P) w x (l.map bv) h4
      rw [this]
      simp [bv]
    rw [run_convert_bytes_string w src dst e _ _ _ hs he hd, run_bytesToString w x _ cap _ hl, foldl_push_bytes]
    have := strOfNums_bv l
    unfold strOfNums at this
    simp only [ByteArray.mk.injEq] at this
    rw [this]
    simp [ByteArray.empty, ByteArray.emptyWithCapacity]
    rfl

theorem u64_or (a b : Nat) (ha : a < 18446744073709551616) (hb : b < 18446744073709551616) : bits BinOp.or IntKind.u64 (a : Int) (b : Int) = ((a ||| b : Nat) : Int) :=
  (bits_nat .u64 64 (by decide) (fun n h0 h1 => IntWalk.u64_in n ⟨h0, by omega⟩) a b ha hb).2
theorem u64_and (a b : Nat) (ha : a < 18446744073709551616) (hb : b < 18446744073709551616) : bits BinOp.and IntKind.u64 (a : Int) (b : Int) = ((a &&& b : Nat) : Int) :=
  (bits_nat .u64 64 (by decide) (fun n h0 h1 => IntWalk.u64_in n ⟨h0, by omega⟩) a b ha hb).1
/-- x times a power of two, or-ed with what is below that power: the sum. -/
theorem nat_or_low (X C i : Nat) (hC : C < 2 ^ i) : (X * 2 ^ i ||| C) = X * 2 ^ i + C := by
  have := Nat.shiftLeft_add_eq_or_of_lt hC X
  rw [Nat.shiftLeft_eq] at this
  exact this.symm
theorem cast_mul_pow (X i : Nat) : ((X : Int) * 2 ^ i) = ((X * 2 ^ i : Nat) : Int) := by rw [Int.natCast_mul, Int.natCast_pow]; rfl
theorem u64_or_low (x c : Int) (i : Nat) (h0 : 0 ≤ x) (hc0 : 0 ≤ c) (hc : c < 2 ^ i) (h1 : x * 2 ^ i + c < 18446744073709551616) : bits BinOp.or IntKind.u64 (x * 2 ^ i) c = x * 2 ^ i + c := by
  obtain ⟨X, rfl⟩ := Int.eq_ofNat_of_zero_le h0
  obtain ⟨C, rfl⟩ := Int.eq_ofNat_of_zero_le hc0
  have hC : C < 2 ^ i := by exact_mod_cast hc
  rw [cast_mul_pow] at h1 ⊢
  rw [u64_or _ _ (by omega) (by omega), nat_or_low X C i hC, Int.natCast_add]

/-- append of a slice (nil or not) to one of the call's own: cells of one value each. -/
theorem wpList_append_rd {P : Program} {w : World} {ops : Array Oper} {rest : List Oper} {o : Oper} {a : Act} {Q : Exit → Act → World → Prop} (hgd : o.guard = none) (s x : Operand) (t : TypeId)
    (ho : o.op = .call { callee := .builtin .append, args := #[s, x], argTypes := #[t, t] })
    (base : Nat) (e : TypeId) (i : TypeInfo) (z : Value) (bytes : Nat) (ht : P.underlying t = some (.slice e)) (hi : P.info? e = some i) (hz : i.zero = some z)
    (hsize : i.size = 1) (hby : i.bytes = bytes) (hzs : z.cells.size = 1)
    (v : Value) (n : Nat) (xs : List Value) (hs : a.eval s = v) (hown : w.ownsRow base e 1 v n xs)
    (u : Value) (news : List Value) (hx : a.eval x = u) (hu : RdV w u news) (h1 : ∀ u ∈ news, u.oneCell' = true)
    (h63 : n + news.length ≤ maxLen) (hbytes : (n + news.length) * bytes ≤ 140737488355328) (hbase : base ≤ w.heap.size)
    (h : ∀ v' w', w'.ownsRow base e 1 v' (n + news.length) (xs ++ news) → w.grownBy w' v.ownBlock → wpList P ops Q rest (a.put o.dst v') w') : wpList P ops Q (o :: rest) a w := by
  rcases hu with ⟨rfl, rfl⟩ | ⟨ad, cap, rfl, h2, h3, h4⟩
  · refine wpList_append_own_none hgd s x t ho base e i 1 ht hi v n xs hs hown hx ?_
    refine h v w ?_ ⟨rfl, rfl, rfl, Nat.le_refl _, fun _ _ _ => rfl⟩
    simpa using hown
  · exact wpList_append_own w hgd s x t ho base e i z 1 bytes ht hi hz hsize hby hzs (by decide) v n xs hs hown ad news.length cap news hx (by rw [Nat.mul_one]) h4 h1 h63 hbytes hbase fun v' w' a b _ => h v' w' a b

/-- []byte(s): a new row that reads as the string's bytes. -/
theorem bytes_of {P : Program} (w : World) (src dst e : TypeId) (s : ByteArray) (hs : P.underlying src = some .string) (hd : P.underlying dst = some (.slice e)) (he : P.underlying e = some (.int .u8)) (hm : s.size ≤ maxLen) :
    ∃ u w', (convert src dst (.string s)).run P w = .ok u w' ∧ Rd w' u s.data.toList ∧ Below w.heap.size w w' := by
  refine ⟨_, _, run_bytes_of_string w src dst e s hs hd he, ?_, ?_⟩
  · have hl : s.data.toList.length = s.size := Array.length_toList
    refine .inr ⟨⟨w.heap.size, 0, none⟩, grownCap w s.size 0 e, by rw [List.length_map, hl], by rw [List.length_map, hl]; exact grownCap_ge w _ _ _, grownCap_le_maxLen w _ _ _ hm, fun i u hu => ?_⟩
    rw [add_at, Nat.zero_add]
    rw [List.getElem?_map] at hu
    obtain ⟨c, hc, rfl⟩ := Option.map_eq_some_iff.1 hu
    have hi : i < s.data.size := by
      have := (List.getElem?_eq_some_iff.1 hc).1
      simpa using this
    show ((w.drew.alloc _).cell? ⟨w.drew.heap.size, i, none⟩) = _
    unfold World.cell?
    rw [heap_alloc_new]
    simp only [Option.isSome_none, Bool.false_eq_true, if_false, bytesRow]
    rw [Array.getElem?_append_left (by simpa using hi), Array.getElem?_map]
    have : s.data[i]? = some c := by rw [← Array.getElem?_toList]; exact hc
    rw [this]
    rfl
  · exact ((Below.refl _ w).drew).alloc (Nat.le_refl _) _

end Go.Proofs.YtfnmcdjfdhdlmaaGreatDoor

/-
  The document's encoding of an unsigned integer, as a function on numbers, and plain facts of it. No program.
-/
namespace Go.Proofs.YtfnmcdjfdhdlmaaGreatDoor
open Go.RowKit

/-- The k bytes of n, the most significant first. -/
def be : Nat → Nat → List UInt8
  | 0, _ => []
  | k + 1, n => UInt8.ofNat (n / 256 ^ k) :: be k n

/-- How many bytes hold n. -/
def nb (n : Nat) : Nat := (Lib.bitLen n + 7) / 8

/-- The encoding of n. -/
def enc (n : Nat) : List UInt8 := if n < 248 then [UInt8.ofNat n] else UInt8.ofNat (247 + nb n) :: be (nb n) n

theorem be_length : ∀ k n, (be k n).length = k
  | 0, _ => rfl
  | k + 1, n => by simp [be, be_length k n]

theorem be_take_snoc : ∀ (k j n : Nat), j < k → (be k n).take (k - j) = (be k n).take (k - (j + 1)) ++ [UInt8.ofNat (n / 256 ^ j)]
  | 0, j, n, h => by omega
  | k + 1, j, n, h => by
    by_cases hj : j = k
    · subst hj
      simp [be, show j + 1 - j = 1 from by omega]
    · rw [show k + 1 - j = (k - j) + 1 from by omega, show k + 1 - (j + 1) = (k - (j + 1)) + 1 from by omega]
      simp only [be, List.take_succ_cons, List.cons_append]
      rw [be_take_snoc k j n (by omega)]

theorem bitLen_le (n : Nat) : Lib.bitLen n ≤ 64 := by
  unfold Lib.bitLen
  generalize 64 = f
  induction f generalizing n with
  | zero => simp [Lib.bitLenAux]
  | succ f ih =>
    simp only [Lib.bitLenAux]
    have := ih (n / 2)
    split <;> omega

theorem nb_le (n : Nat) : nb n ≤ 8 := by have := bitLen_le n; unfold nb; omega

theorem enc_length (n : Nat) : (enc n).length ≤ 9 := by
  have := nb_le n
  unfold enc
  split <;> simp [be_length]
  omega

theorem bitLen_lt (n : Nat) (h : n < 2 ^ 64) : n < 2 ^ Lib.bitLen n := by
  have key : ∀ f n, n < 2 ^ f → n < 2 ^ Lib.bitLenAux f n := by
    intro f
    induction f with
    | zero => intro n h; simpa [Lib.bitLenAux] using h
    | succ f ih =>
      intro n h
      simp only [Lib.bitLenAux]
      split
      · subst_vars; simp
      · have := ih (n / 2) (by rw [Nat.pow_succ] at h; omega)
        rw [Nat.add_comm, Nat.pow_succ]
        omega
  exact key 64 n h

theorem bitLen_ge (n : Nat) (h0 : n ≠ 0) : 2 ^ (Lib.bitLen n - 1) ≤ n := by
  have key : ∀ f n, n ≠ 0 → 2 ^ (Lib.bitLenAux f n - 1) ≤ n := by
    intro f
    induction f with
    | zero => intro n h; simp [Lib.bitLenAux]; omega
    | succ f ih =>
      intro n h
      simp only [Lib.bitLenAux, if_neg h]
      by_cases h2 : n / 2 = 0
      · have : Lib.bitLenAux f (n / 2) = 0 := by rw [h2]; cases f <;> simp [Lib.bitLenAux]
        rw [this]; simp; omega
      · have := ih (n / 2) h2
        by_cases hz : Lib.bitLenAux f (n / 2) = 0
        · rw [hz]; simp; omega
        · rw [show 1 + Lib.bitLenAux f (n / 2) - 1 = (Lib.bitLenAux f (n / 2) - 1) + 1 from by omega, Nat.pow_succ]
          omega
  exact key 64 n h0

theorem nb_lt (n : Nat) (h : n < 2 ^ 64) : n < 256 ^ nb n := by
  have h1 := bitLen_lt n h
  have e : (256 : Nat) ^ nb n = 2 ^ (8 * nb n) := by rw [Nat.pow_mul]
  rw [e]
  refine Nat.lt_of_lt_of_le h1 (Nat.pow_le_pow_right (by decide) ?_)
  unfold nb
  omega

theorem nb_ge (n : Nat) (h : n ≠ 0) : 256 ^ (nb n - 1) ≤ n := by
  have h1 := bitLen_ge n h
  have e : (256 : Nat) ^ (nb n - 1) = 2 ^ (8 * (nb n - 1)) := by rw [Nat.pow_mul]
  rw [e]
  refine Nat.le_trans (Nat.pow_le_pow_right (by decide) ?_) h1
  unfold nb
  omega

theorem nb_pos (n : Nat) (h : n ≠ 0) (h2 : n < 2 ^ 64) : 1 ≤ nb n := by
  have := nb_lt n h2
  by_cases h0 : nb n = 0
  · rw [h0] at this; simp at this; omega
  · omega

/-- How many bytes hold n is told by its bounds. -/
theorem nb_eq (n k : Nat) (h1 : n < 256 ^ k) (h2 : 256 ^ (k - 1) ≤ n) (hk : 1 ≤ k) (hn : n < 2 ^ 64) : nb n = k := by
  have hp : 0 < 256 ^ (k - 1) := Nat.pow_pos (by decide)
  have a := nb_lt n hn
  have b := nb_ge n (by omega)
  have c := nb_pos n (by omega) hn
  have u1 : ¬ nb n < k := fun h => by
    have := Nat.pow_le_pow_right (show 0 < 256 by decide) (show nb n ≤ k - 1 by omega)
    omega
  have u2 : ¬ k < nb n := fun h => by
    have := Nat.pow_le_pow_right (show 0 < 256 by decide) (show k ≤ nb n - 1 by omega)
    omega
  omega

theorem be_mod : ∀ (k n : Nat), be k n = be k (n % 256 ^ k)
  | 0, _ => rfl
  | k + 1, n => by
    simp only [be]
    have e1 : n / 256 ^ k % 256 = n % 256 ^ (k + 1) / 256 ^ k := by
      rw [Nat.pow_succ, Nat.mod_mul_right_div_self]
    have e2 : UInt8.ofNat (n / 256 ^ k) = UInt8.ofNat (n % 256 ^ (k + 1) / 256 ^ k) := by
      rw [← e1]
      apply UInt8.toNat_inj.1
      simp
    rw [e2, be_mod k n, be_mod k (n % 256 ^ (k + 1))]
    have e3 : n % 256 ^ (k + 1) % 256 ^ k = n % 256 ^ k := Nat.mod_mod_of_dvd n (Nat.pow_dvd_pow 256 (by omega))
    rw [e3]

theorem ofNat_lt (a b : Nat) (ha : a < 256) (hb : b < 256) : (UInt8.ofNat a < UInt8.ofNat b) ↔ a < b := by
  rw [UInt8.lt_iff_toNat_lt, UInt8.toNat_ofNat', UInt8.toNat_ofNat', Nat.mod_eq_of_lt ha, Nat.mod_eq_of_lt hb]
theorem ofNat_eq (a b : Nat) (ha : a < 256) (hb : b < 256) : (UInt8.ofNat a = UInt8.ofNat b) ↔ a = b := by
  rw [← UInt8.toNat_inj, UInt8.toNat_ofNat', UInt8.toNat_ofNat', Nat.mod_eq_of_lt ha, Nat.mod_eq_of_lt hb]

theorem be_less : ∀ (k a b : Nat), a < 256 ^ k → b < 256 ^ k → Op.bytesLess (be k a) (be k b) = decide (a < b)
  | 0, a, b, ha, hb => by simp [be, Op.bytesLess]; simp at ha hb; omega
  | k + 1, a, b, ha, hb => by
    have hp : 0 < 256 ^ k := Nat.pow_pos (by decide)
    have qa : a / 256 ^ k < 256 := Nat.div_lt_of_lt_mul (by rw [Nat.pow_succ] at ha; exact ha)
    have qb : b / 256 ^ k < 256 := Nat.div_lt_of_lt_mul (by rw [Nat.pow_succ] at hb; exact hb)
    have ih := be_less k (a % 256 ^ k) (b % 256 ^ k) (Nat.mod_lt _ hp) (Nat.mod_lt _ hp)
    rw [← be_mod, ← be_mod] at ih
    simp only [be, Op.bytesLess, ih]
    have da := Nat.div_add_mod a (256 ^ k)
    have db := Nat.div_add_mod b (256 ^ k)
    have ra := Nat.mod_lt a hp
    have rb := Nat.mod_lt b hp
    generalize a / 256 ^ k = qa' at *
    generalize b / 256 ^ k = qb' at *
    generalize a % 256 ^ k = ra' at *
    generalize b % 256 ^ k = rb' at *
    generalize 256 ^ k = m at *
    rw [Bool.eq_iff_iff]
    simp only [Bool.or_eq_true, Bool.and_eq_true, decide_eq_true_eq, beq_iff_eq, ofNat_lt _ _ qa qb, ofNat_eq _ _ qa qb]
    subst da db
    rcases Nat.lt_trichotomy qa' qb' with h | h | h
    · have := Nat.mul_le_mul_left m (show qa' + 1 ≤ qb' by omega)
      rw [Nat.mul_add] at this
      exact ⟨fun _ => by omega, fun _ => .inl h⟩
    · subst h
      simp
    · have := Nat.mul_le_mul_left m (show qb' + 1 ≤ qa' by omega)
      rw [Nat.mul_add] at this
      exact ⟨fun h' => by omega, fun h' => by omega⟩

theorem bytesLess_irrefl : ∀ (l : List UInt8), Op.bytesLess l l = false
  | [] => rfl
  | c :: l => by simp [Op.bytesLess, bytesLess_irrefl l]

/-- Of two numbers the less one's bytes stand ahead. -/
theorem enc_less (a b : Nat) (ha : a < 2 ^ 64) (hb : b < 2 ^ 64) : Op.bytesLess (enc a) (enc b) = decide (a < b) := by
  have na := nb_le a
  have nB := nb_le b
  unfold enc
  by_cases h1 : a < 248 <;> by_cases h2 : b < 248
  · rw [if_pos h1, if_pos h2]
    simp only [Op.bytesLess, Bool.and_false, Bool.or_false]
    rw [decide_eq_decide]
    exact ofNat_lt a b (by omega) (by omega)
  · rw [if_pos h1, if_neg h2]
    have := nb_pos b (by omega) hb
    simp only [Op.bytesLess]
    rw [decide_eq_true ((ofNat_lt a (247 + nb b) (by omega) (by omega)).2 (by omega)), Bool.true_or, decide_eq_true (by omega)]
  · rw [if_neg h1, if_pos h2]
    have := nb_pos a (by omega) ha
    simp only [Op.bytesLess]
    rw [decide_eq_false (fun h => absurd ((ofNat_lt (247 + nb a) b (by omega) (by omega)).1 h) (by omega)), decide_eq_false (show ¬ a < b by omega)]
    have : (UInt8.ofNat (247 + nb a) == UInt8.ofNat b) = false := by
      rw [beq_eq_false_iff_ne]
      exact fun h => absurd ((ofNat_eq _ _ (by omega) (by omega)).1 h) (by omega)
    rw [this]
    rfl
  · rw [if_neg h1, if_neg h2]
    simp only [Op.bytesLess]
    rcases Nat.lt_trichotomy (nb a) (nb b) with h | h | h
    · rw [decide_eq_true ((ofNat_lt (247 + nb a) (247 + nb b) (by omega) (by omega)).2 (by omega)), Bool.true_or]
      have x := nb_lt a ha
      have y := nb_ge b (by omega)
      have z := Nat.pow_le_pow_right (show 0 < 256 by decide) (show nb a ≤ nb b - 1 by omega)
      rw [decide_eq_true (by omega)]
    · rw [h, be_less _ _ _ (h ▸ nb_lt a ha) (nb_lt b hb)]
      simp
    · rw [decide_eq_false (fun hh => absurd ((ofNat_lt (247 + nb a) (247 + nb b) (by omega) (by omega)).1 hh) (by omega))]
      have : (UInt8.ofNat (247 + nb a) == UInt8.ofNat (247 + nb b)) = false := by
        rw [beq_eq_false_iff_ne]
        exact fun hh => absurd ((ofNat_eq _ _ (by omega) (by omega)).1 hh) (by omega)
      rw [this]
      have x := nb_lt b hb
      have y := nb_ge a (by omega)
      have z := Nat.pow_le_pow_right (show 0 < 256 by decide) (show nb b ≤ nb a - 1 by omega)
      rw [decide_eq_false (show ¬ a < b by omega)]
      rfl

theorem enc_inj (a b : Nat) (ha : a < 2 ^ 64) (hb : b < 2 ^ 64) (h : enc a = enc b) : a = b := by
  have h1 := enc_less a b ha hb
  have h2 := enc_less b a hb ha
  rw [h, bytesLess_irrefl] at h1
  rw [← h, bytesLess_irrefl] at h2
  have := of_decide_eq_false h1.symm
  have := of_decide_eq_false h2.symm
  omega

theorem enc_pos (n : Nat) : 1 ≤ (enc n).length := by
  unfold enc
  split <;> simp

/-- How long an encoding is is told by its first byte. -/
theorem enc_head (n : Nat) (hn : n < 2 ^ 64) : ∃ c l, enc n = c :: l ∧ l.length = c.toNat - 247 := by
  have nB := nb_le n
  unfold enc
  split
  · rename_i h
    refine ⟨_, _, rfl, ?_⟩
    rw [UInt8.toNat_ofNat', Nat.mod_eq_of_lt (by omega)]
    simp
    omega
  · refine ⟨_, _, rfl, ?_⟩
    rw [UInt8.toNat_ofNat', Nat.mod_eq_of_lt (by omega), be_length]
    omega

/-- No encoding begins another one. -/
theorem enc_prefix (a b : Nat) (ha : a < 2 ^ 64) (hb : b < 2 ^ 64) (h : a ≠ b) (m : Nat) (hm : m = min (enc a).length (enc b).length) : (enc a).take m ≠ (enc b).take m := by
  intro he
  apply h
  apply enc_inj a b ha hb
  obtain ⟨c, l, e1, l1⟩ := enc_head a ha
  obtain ⟨d, k, e2, l2⟩ := enc_head b hb
  rw [e1, e2] at he hm ⊢
  have hm1 : m = (m - 1) + 1 := by simp at hm; omega
  rw [hm1] at he
  simp only [List.take_succ_cons, List.cons.injEq] at he
  obtain ⟨rfl, he⟩ := he
  have : l.length = k.length := by omega
  simp at hm
  rw [List.take_of_length_le (by omega), List.take_of_length_le (by omega)] at he
  rw [he]

/-! ### What bytes begin with -/

/-- The number that bytes hold, the most significant first. -/
def val (l : List UInt8) : Nat := l.foldl (fun n c => n * 256 + c.toNat) 0

theorem val_snoc (l : List UInt8) (c : UInt8) : val (l ++ [c]) = val l * 256 + c.toNat := by simp [val]

theorem foldl_val (l : List UInt8) : ∀ n, l.foldl (fun n c => n * 256 + c.toNat) n = n * 256 ^ l.length + val l := by
  unfold val
  induction l with
  | nil => intro n; simp
  | cons c l ih =>
    intro n
    simp only [List.foldl_cons, List.length_cons]
    rw [ih, ih (0 * 256 + c.toNat), Nat.zero_mul, Nat.zero_add, Nat.add_mul, Nat.mul_assoc, Nat.pow_succ, Nat.mul_comm 256, Nat.add_assoc]

theorem val_cons (c : UInt8) (l : List UInt8) : val (c :: l) = c.toNat * 256 ^ l.length + val l := by
  have := foldl_val l (0 * 256 + c.toNat)
  rw [Nat.zero_mul, Nat.zero_add] at this
  rw [← this]
  simp [val]

theorem val_lt (l : List UInt8) : val l < 256 ^ l.length := by
  induction l with
  | nil => simp [val]
  | cons c l ih =>
    rw [val_cons, List.length_cons, Nat.pow_succ]
    have := c.toNat_lt
    have h2 := Nat.mul_le_mul_right (256 ^ l.length) (show c.toNat + 1 ≤ 256 by omega)
    rw [Nat.add_mul] at h2
    rw [Nat.mul_comm _ 256]
    omega

theorem val_be : ∀ k n, val (be k n) = n % 256 ^ k
  | 0, n => by simp [be, val, Nat.mod_one]
  | k + 1, n => by
    simp only [be]
    rw [val_cons, be_length, val_be k n, UInt8.toNat_ofNat', show (2 : Nat) ^ 8 = 256 from rfl]
    have e : (256 : Nat) ^ (k + 1) = 256 ^ k * 256 := Nat.pow_succ _ _
    have : n % (256 ^ k * 256) = n % 256 ^ k + 256 ^ k * (n / 256 ^ k % 256) := Nat.mod_mul
    rw [e, this, Nat.mul_comm]
    omega

theorem be_val (l : List UInt8) : be l.length (val l) = l := by
  induction l with
  | nil => rfl
  | cons c l ih =>
    have hl := val_lt l
    have hp : 0 < 256 ^ l.length := Nat.pow_pos (by decide)
    rw [List.length_cons, be, val_cons]
    have e1 : (c.toNat * 256 ^ l.length + val l) / 256 ^ l.length = c.toNat := by
      rw [Nat.mul_comm, Nat.mul_add_div hp, Nat.div_eq_of_lt hl, Nat.add_zero]
    rw [e1, be_mod]
    have e2 : (c.toNat * 256 ^ l.length + val l) % 256 ^ l.length = val l := by
      rw [Nat.mul_comm, Nat.mul_add_mod, Nat.mod_eq_of_lt hl]
    rw [e2, ih]
    simp

/-- The number that bytes begin with, and how many bytes it takes: none if there is none. -/
def front : List UInt8 → Nat × Nat
  | [] => (0, 0)
  | c :: t =>
    if c.toNat < 248 then (c.toNat, 1)
    else if t.length < c.toNat - 247 then (0, 0)
    else if val (t.take (c.toNat - 247)) < 248 ∨ (1 < c.toNat - 247 ∧ t.head? = some 0) then (0, 0)
    else (val (t.take (c.toNat - 247)), 1 + (c.toNat - 247))

theorem front_enc (n : Nat) (t : List UInt8) (hn : n < 2 ^ 64) : front (enc n ++ t) = (n, (enc n).length) := by
  have nB := nb_le n
  unfold enc
  split
  · rename_i h
    simp only [List.singleton_append, front, List.length_singleton]
    rw [UInt8.toNat_ofNat', Nat.mod_eq_of_lt (by omega), if_pos h]
  · rename_i h
    have hp := nb_pos n (by omega) hn
    have hlt := nb_lt n hn
    have hge := nb_ge n (by omega)
    have e0 : (UInt8.ofNat (247 + nb n)).toNat = 247 + nb n := by rw [UInt8.toNat_ofNat', Nat.mod_eq_of_lt (by omega)]
    have e1 : (be (nb n) n ++ t).take (nb n) = be (nb n) n := by
      rw [List.take_append_of_le_length (by rw [be_length]; omega), List.take_of_length_le (by rw [be_length]; omega)]
    simp only [List.cons_append, front, List.length_cons]
    rw [e0, if_neg (by omega), show 247 + nb n - 247 = nb n by omega, if_neg (by rw [List.length_append, be_length]; omega), e1, val_be, Nat.mod_eq_of_lt hlt, be_length]
    rw [if_neg]
    · rw [Nat.add_comm]
    · rintro (h1 | ⟨h1, h2⟩)
      · omega
      · obtain ⟨k, hk⟩ : ∃ k, nb n = k + 1 := ⟨nb n - 1, by omega⟩
        rw [hk] at h2 hge
        simp only [be, List.cons_append, List.head?_cons, Option.some.injEq, Nat.add_sub_cancel] at h2 hge
        have h3 := congrArg UInt8.toNat h2
        rw [hk, Nat.pow_succ] at hlt
        have hd : n / 256 ^ k < 256 := Nat.div_lt_of_lt_mul hlt
        rw [UInt8.toNat_ofNat', Nat.mod_eq_of_lt hd] at h3
        have : 1 ≤ n / 256 ^ k := (Nat.one_le_div_iff (Nat.pow_pos (by decide))).2 hge
        simp at h3
        have h4 := Nat.pow_pos (n := k) (show 0 < 256 by decide)
        omega

theorem front_sound (l : List UInt8) (n s : Nat) (h : front l = (n, s)) (hs : s ≠ 0) : n < 2 ^ 64 ∧ s = (enc n).length ∧ l = enc n ++ l.drop s := by
  cases l with
  | nil => simp [front] at h; omega
  | cons c t =>
    simp only [front] at h
    split at h
    · rename_i h1
      simp at h
      obtain ⟨rfl, rfl⟩ := h
      have e : enc c.toNat = [c] := by unfold enc; rw [if_pos h1]; simp
      rw [e]
      exact ⟨by omega, rfl, by simp⟩
    · rename_i h1
      split at h
      · simp at h; omega
      · rename_i h2
        split at h
        · simp at h; omega
        · rename_i h3
          simp only [Prod.mk.injEq] at h
          obtain ⟨rfl, rfl⟩ := h
          have hc := c.toNat_lt
          have hk : 1 ≤ c.toNat - 247 ∧ c.toNat - 247 ≤ 8 := by omega
          have hkc : UInt8.ofNat (247 + (c.toNat - 247)) = c := by
            rw [show 247 + (c.toNat - 247) = c.toNat by omega]; simp
          generalize c.toNat - 247 = k at *
          have hlen : (t.take k).length = k := by rw [List.length_take]; omega
          have hv := val_lt (t.take k)
          rw [hlen] at hv
          have h64 : val (t.take k) < 2 ^ 64 := Nat.lt_of_lt_of_le hv (by
            have := Nat.pow_le_pow_right (show 0 < 256 by decide) hk.2
            exact Nat.le_trans this (by decide))
          have hge : 256 ^ (k - 1) ≤ val (t.take k) := by
            by_cases hk1 : k = 1
            · subst hk1; simp; omega
            · cases t with
              | nil => simp at hlen; omega
              | cons d t =>
                obtain ⟨j, rfl⟩ : ∃ j, k = j + 1 := ⟨k - 1, by omega⟩
                rw [List.take_succ_cons, val_cons]
                have hj : (t.take j).length = j := by simpa using hlen
                rw [hj, Nat.add_sub_cancel]
                have hd : d ≠ 0 := fun h0 => h3 (.inr ⟨by omega, by rw [h0]; rfl⟩)
                have hd1 : 1 ≤ d.toNat := by
                  rcases Nat.eq_zero_or_pos d.toNat with h0 | h0
                  · exact absurd (UInt8.toNat_inj.1 (by rw [h0]; rfl)) hd
                  · exact h0
                have := Nat.mul_le_mul_right (256 ^ j) hd1
                omega
          have hnb := nb_eq _ k hv hge hk.1 h64
          have e : enc (val (t.take k)) = c :: t.take k := by
            unfold enc
            rw [if_neg (fun h0 => h3 (.inl h0)), hnb, hkc]
            congr 1
            have hbv := be_val (t.take k)
            rw [hlen] at hbv
            exact hbv
          refine ⟨h64, by rw [e, List.length_cons, hlen, Nat.add_comm], ?_⟩
          rw [e, Nat.add_comm, List.drop_succ_cons, List.cons_append, List.take_append_drop]

/-- fold's result. -/
def zig (n : Int) : Nat := if n < 0 then (2 * (-1 - n) + 1).toNat else (2 * n).toNat
theorem zig_neg (n : Int) (h : n < 0) : (zig n : Int) = (-1 - n) * 2 + 1 := by unfold zig; rw [if_pos h]; omega
theorem zig_pos (n : Int) (h : ¬ n < 0) : (zig n : Int) = n * 2 := by unfold zig; rw [if_neg h]; omega

/-- The number whose encoding is an unsigned one. -/
def zag (u : Nat) : Int := if u % 2 = 1 then -1 - (u / 2 : Nat) else (u / 2 : Nat)

theorem zag_zig (n : Int) (_h0 : -9223372036854775808 ≤ n) (_h1 : n ≤ 9223372036854775807) : zag (zig n) = n := by
  unfold zag
  by_cases h : n < 0
  · have := zig_neg n h
    rw [if_pos (by omega)]
    omega
  · have := zig_pos n h
    rw [if_neg (by omega)]
    omega

end Go.Proofs.YtfnmcdjfdhdlmaaGreatDoor

/-
  A value's bytes, and the value that bytes begin with. No program.
-/
namespace Go.Proofs.YtfnmcdjfdhdlmaaGreatDoor
open Go.RowKit

def encV (v : V) : List UInt8 :=
  if rightV v = true then UInt8.ofNat v.k.toNat :: (if v.k = 1 ∨ v.k = 2 then enc (zig v.n) else if v.k = 3 then enc v.s.length ++ v.s else []) else [0]

def takeV : List UInt8 → Option (V × List UInt8)
  | [] => none
  | c :: t =>
    if c = 0 then some (V.zero, t)
    else if c = 1 ∨ c = 2 then
      (if (front t).2 = 0 then none else if rightV ⟨(c.toNat : Int), zag (front t).1, []⟩ = true then some (⟨(c.toNat : Int), zag (front t).1, []⟩, t.drop (front t).2) else none)
    else if c = 3 then
      (if (front t).2 = 0 then none else if (front t).1 ≤ 1024 ∧ (front t).1 ≤ (t.drop (front t).2).length then some (⟨3, 0, (t.drop (front t).2).take (front t).1⟩, (t.drop (front t).2).drop (front t).1) else none)
    else none

/-- What is taken again of what was put. -/
def keepV (v : V) : V := if rightV v = true then v else V.zero

theorem zig_lt (n : Int) (h0 : -9223372036854775808 ≤ n) (h1 : n ≤ 9223372036854775807) : zig n < 2 ^ 64 := by
  unfold zig
  split <;> omega

theorem takeV_enc (v : V) (hv : v.fits) (m : List UInt8) : takeV (encV v ++ m) = some (keepV v, m) := by
  unfold encV keepV
  cases hr : rightV v with
  | false => rfl
  | true =>
    rw [if_pos rfl, if_pos rfl]
    obtain ⟨k, n, s⟩ := v
    have hlo : -9223372036854775808 ≤ n := hv.lo
    have hhi : n ≤ 9223372036854775807 := hv.hi
    have hz := zig_lt n hlo hhi
    have he := enc_pos (zig n)
    rcases (rightV_iff _).1 hr with ⟨h1, h2, h3⟩ | ⟨h1, h2, h3⟩ | ⟨h1, h2⟩ | ⟨h1, h2, h3⟩
    · simp only at h1 h2 h3
      subst h1 h2 h3
      rfl
    · simp only at h1 h2 h3
      subst h1 h3
      have hf := front_enc (zig n) m hz
      show takeV ((1 : UInt8) :: (enc (zig n) ++ m)) = _
      rw [takeV, if_neg (by decide), if_pos (by decide), hf]
      simp only
      rw [if_neg (by omega), zag_zig n hlo hhi, List.drop_left]
      exact if_pos hr
    · simp only at h1 h2
      subst h1 h2
      have hf := front_enc (zig n) m hz
      show takeV ((2 : UInt8) :: (enc (zig n) ++ m)) = _
      rw [takeV, if_neg (by decide), if_pos (by decide), hf]
      simp only
      rw [if_neg (by omega), zag_zig n hlo hhi, List.drop_left]
      exact if_pos hr
    · simp only at h1 h2 h3
      subst h1 h2
      have hp := enc_pos s.length
      have hf := front_enc s.length (s ++ m) (by omega)
      show takeV ((3 : UInt8) :: ((enc s.length ++ s) ++ m)) = _
      rw [takeV, if_neg (by decide), if_neg (by decide), if_pos (by decide), List.append_assoc, hf]
      simp only
      rw [if_neg (by omega), List.drop_left, if_pos ⟨h3, by rw [List.length_append]; omega⟩, List.take_left, List.drop_left]

theorem encV_pos (v : V) : 1 ≤ (encV v).length := by unfold encV; split <;> simp
theorem encV_le (v : V) : (encV v).length ≤ 2000 := by
  unfold encV
  split
  · rename_i h
    have h1 := enc_length (zig v.n)
    have h2 := enc_length v.s.length
    have h3 : v.k = 3 → v.s.length ≤ 1024 := fun hk => by
      rcases (rightV_iff v).1 h with h | h | h | h <;> omega
    split
    · simp; omega
    · split
      · rename_i hk
        have := h3 hk
        simp
        omega
      · simp
  · simp

end Go.Proofs.YtfnmcdjfdhdlmaaGreatDoor

/-
  A number taken off the front of bytes: over lists. No program.
-/
namespace Go.Proofs.YtfnmcdjfdhdlmaaGreatDoor

/-- A number taken off the front, what is left, and whether that failed. -/
def tk (l : List UInt8) : Nat × List UInt8 × Bool := if (front l).2 = 0 then (0, [], true) else ((front l).1, l.drop (front l).2, false)
theorem tk_enc (n : Nat) (t : List UInt8) (hn : n < 2 ^ 64) : tk (enc n ++ t) = (n, t, false) := by
  unfold tk
  rw [front_enc n t hn]
  have := enc_pos n
  rw [if_neg (by simp only; omega)]
  simp
theorem tk_lt (l : List UInt8) : (tk l).1 < 2 ^ 64 := by
  unfold tk
  split
  · simp
  · rename_i h
    exact (front_sound l (front l).1 (front l).2 rfl h).1
theorem tk_bad {l : List UInt8} (h : (tk l).2.2 = true) : tk l = (0, [], true) := by
  unfold tk at h ⊢
  split
  · rfl
  · rename_i hn; rw [if_neg hn] at h; cases h
theorem tk_ok {l : List UInt8} (h : (front l).2 ≠ 0) : tk l = ((front l).1, l.drop (front l).2, false) := by
  unfold tk
  rw [if_neg h]
theorem tk_no {l : List UInt8} (h : (front l).2 = 0) : tk l = (0, [], true) := by
  unfold tk
  rw [if_pos h]
theorem tk_len (l : List UInt8) : (tk l).2.1.length ≤ l.length ∧ ((tk l).2.2 = false → (tk l).2.1.length + 1 ≤ l.length) := by
  by_cases h : (front l).2 = 0
  · rw [tk_no h]
    exact ⟨Nat.zero_le _, fun h => by cases h⟩
  · rw [tk_ok h]
    obtain ⟨h1, h2, h3⟩ := front_sound l (front l).1 (front l).2 rfl h
    have h4 := congrArg List.length h3
    rw [List.length_append] at h4
    have h5 := enc_pos (front l).1
    generalize (front l).1 = q at h4 h5
    generalize l.drop (front l).2 = r at h4
    exact ⟨show r.length ≤ l.length by omega, fun _ => show r.length + 1 ≤ l.length by omega⟩
theorem tk_zig_lt {x : Int} (h0 : -9223372036854775808 ≤ x) (h1 : x ≤ 9223372036854775807) : zig x < 2 ^ 64 := by
  by_cases h : x < 0
  · have := zig_neg x h; omega
  · have := zig_pos x h; omega
theorem tk_zag_fits {n : Nat} (h : n < 2 ^ 64) : -9223372036854775808 ≤ zag n ∧ zag n ≤ 9223372036854775807 := by
  unfold zag
  split <;> omega

/-- A text taken off the front, what is left, and whether that failed. -/
def tkT (l : List UInt8) : List UInt8 × List UInt8 × Bool :=
  if (front l).2 = 0 then ([], [], true) else if 1024 < (front l).1 ∨ (l.drop (front l).2).length < (front l).1 then ([], [], true) else ((l.drop (front l).2).take (front l).1, (l.drop (front l).2).drop (front l).1, false)
theorem tkT_no {l : List UInt8} (h : (front l).2 = 0) : tkT l = ([], [], true) := if_pos h
theorem tkT_long {l : List UInt8} (h : (front l).2 ≠ 0) (hn : 1024 < (front l).1 ∨ (l.drop (front l).2).length < (front l).1) : tkT l = ([], [], true) := by
  unfold tkT
  rw [if_neg h, if_pos hn]
theorem tkT_ok {l : List UInt8} (h : (front l).2 ≠ 0) (hn : ¬ (1024 < (front l).1 ∨ (l.drop (front l).2).length < (front l).1)) : tkT l = ((l.drop (front l).2).take (front l).1, (l.drop (front l).2).drop (front l).1, false) := by
  unfold tkT
  rw [if_neg h, if_neg hn]
theorem tkT_enc (s t : List UInt8) (hs : s.length ≤ 1024) : tkT (enc s.length ++ s ++ t) = (s, t, false) := by
  have hf := front_enc s.length (s ++ t) (by omega)
  rw [← List.append_assoc] at hf
  have hp := enc_pos s.length
  have hd : (enc s.length ++ s ++ t).drop (enc s.length).length = s ++ t := by rw [List.append_assoc, List.drop_left]
  rw [tkT_ok (by rw [hf]; simp only; omega) (by rw [hf]; simp only; rw [hd, List.length_append]; omega), hf]
  simp only
  rw [hd, List.take_left, List.drop_left]
theorem tkT_bad {l : List UInt8} (h : (tkT l).2.2 = true) : tkT l = ([], [], true) := by
  by_cases h0 : (front l).2 = 0
  · exact tkT_no h0
  · by_cases hn : 1024 < (front l).1 ∨ (l.drop (front l).2).length < (front l).1
    · exact tkT_long h0 hn
    · rw [tkT_ok h0 hn] at h
      cases h
theorem tkT_len (l : List UInt8) : (tkT l).1.length ≤ 1024 ∧ (tkT l).1.length + (tkT l).2.1.length ≤ l.length := by
  by_cases h0 : (front l).2 = 0
  · rw [tkT_no h0]; exact ⟨Nat.zero_le _, Nat.zero_le _⟩
  · by_cases hn : 1024 < (front l).1 ∨ (l.drop (front l).2).length < (front l).1
    · rw [tkT_long h0 hn]; exact ⟨Nat.zero_le _, Nat.zero_le _⟩
    · rw [tkT_ok h0 hn]
      simp only [List.length_take, List.length_drop]
      omega
theorem tkT_sound {l : List UInt8} (h : (tkT l).2.2 = false) : l = enc (tkT l).1.length ++ (tkT l).1 ++ (tkT l).2.1 := by
  by_cases h0 : (front l).2 = 0
  · rw [tkT_no h0] at h; cases h
  · by_cases hn : 1024 < (front l).1 ∨ (l.drop (front l).2).length < (front l).1
    · rw [tkT_long h0 hn] at h; cases h
    · obtain ⟨h1, h2, h3⟩ := front_sound l (front l).1 (front l).2 rfl h0
      rw [tkT_ok h0 hn]
      simp only
      have e : ((l.drop (front l).2).take (front l).1).length = (front l).1 := by rw [List.length_take]; omega
      rw [e, List.append_assoc, List.take_append_drop]
      exact h3
theorem tk_sound {l : List UInt8} (h : (tk l).2.2 = false) : l = enc (tk l).1 ++ (tk l).2.1 ∧ (tk l).1 < 2 ^ 64 := by
  by_cases h0 : (front l).2 = 0
  · rw [tk_no h0] at h; cases h
  · rw [tk_ok h0]
    obtain ⟨h1, h2, h3⟩ := front_sound l (front l).1 (front l).2 rfl h0
    exact ⟨h3, h1⟩

end Go.Proofs.YtfnmcdjfdhdlmaaGreatDoor
