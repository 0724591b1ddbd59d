/-
  Words on slices of bytes and of numbers, as values of the model, that hold over any program: what a slice value reads as, and that it goes on reading so while old blocks stay as they are.
-/
import Derived.WalkKit
import Derived.WalkSpells
import Derived.WalkLawsBesides
import Derived.Lib.Hide
import Derived.Laws.BytesArg
import Derived.Laws.AppendOwnNone
import Derived.Laws.IdiomStrings
namespace Go.Proofs.Ytlbilmmjcfiokaa
open Go.RowKit

/-- A byte as a value. -/
def bv (c : UInt8) : Value := .int .u8 (c.toNat : Int)

/-- The slice value v (nil, or leading to cells) has these values as its elements (cells of one value each). -/
def RdV (w : World) (v : Value) (xs : List Value) : Prop :=
  (v = .slice none 0 0 ∧ xs = []) ∨
  ∃ x cap, v = .slice (some x) xs.length cap ∧ xs.length ≤ cap ∧ cap ≤ maxLen ∧ ∀ i u, xs[i]? = some u → w.cell? (x.add i) = some u

/-- The slice value v reads as these bytes. -/
def Rd (w : World) (v : Value) (l : List UInt8) : Prop := RdV w v (l.map bv)

theorem lt_of_cell {w : World} {a : Addr} {u : Value} (h : w.cell? a = some u) : a.block < w.heap.size := World.block_lt_of_cell? w a h

theorem RdV.mono {w w' : World} {v : Value} {xs : List Value} (h : RdV w v xs) (hb : Below w.heap.size w w') : RdV w' v xs := by
  rcases h with h | ⟨x, cap, h1, h2, h3, h4⟩
  · exact .inl h
  · refine .inr ⟨x, cap, h1, h2, h3, fun i u hu => ?_⟩
    have hc := h4 i u hu
    exact (hb.cell (lt_of_cell hc)).trans hc

theorem Rd.mono {w w' : World} {v : Value} {l : List UInt8} (h : Rd w v l) (hb : Below w.heap.size w w') : Rd w' v l := RdV.mono h hb

theorem RdV.nil (w : World) : RdV w (.slice none 0 0) [] := .inl ⟨rfl, rfl⟩
theorem Rd.nil (w : World) : Rd w (.slice none 0 0) [] := .inl ⟨rfl, rfl⟩

theorem add_zero (x : Addr) : x.add 0 = x := by unfold Addr.add; simp

/-- Where there is a cell the address is plain. -/
theorem plain_of {w : World} {x : Addr} {u : Value} (h : w.cell? x = some u) : ∃ b off, x = ⟨b, off, none⟩ ∧ b < w.heap.size := by
  obtain ⟨b, off, spot⟩ := x
  have hspot : spot = none := World.cell?_spot h
  subst hspot
  exact ⟨b, off, rfl, lt_of_cell h⟩

theorem add_at (b off i : Nat) : (⟨b, off, none⟩ : Addr).add i = ⟨b, off + i, none⟩ := by unfold Addr.add; split <;> simp_all

theorem RdV.of_owns {w : World} {base : Nat} {e : TypeId} {v : Value} {n : Nat} {xs : List Value} (h : w.ownsRow base e 1 v n xs) : RdV w v xs := by
  have hl : xs.length = n := by simpa using h.1
  have hc := fun g hg => h.cells (g := g) hg
  rcases h.2 with ⟨rfl, rfl⟩ | ⟨g, cap, cur, rfl, h1, h2, h3, h4, h5, h6⟩
  · have : xs = [] := List.length_eq_zero_iff.1 hl
    subst this
    exact RdV.nil w
  · exact .inr ⟨_, cap, by rw [hl], by omega, h4, fun i u hu => hc g rfl i u hu⟩

theorem RdV.takes {w : World} {x : Addr} {cap : Nat} {xs : List Value} (h2 : xs.length ≤ cap) (h3 : cap ≤ maxLen) (h4 : ∀ i u, xs[i]? = some u → w.cell? (x.add i) = some u) (n m : Nat) (hn : m = min n xs.length) : RdV w (.slice (some x) m cap) (xs.take n) := by
  subst hn
  refine .inr ⟨x, cap, by rw [List.length_take], by rw [List.length_take]; omega, h3, fun i u hu => h4 i u ?_⟩
  rw [List.getElem?_take] at hu
  split at hu
  · exact hu
  · cases hu

theorem Rd.shape {w : World} {v : Value} {l : List UInt8} (h : Rd w v l) : ∃ a cap, v = .slice a l.length cap ∧ l.length ≤ cap ∧ cap ≤ maxLen := by
  rcases h with ⟨rfl, h1⟩ | ⟨x, cap, rfl, h2, h3, _⟩
  · have : l = [] := by simpa using h1
    subst this
    exact ⟨none, 0, rfl, Nat.le_refl _, by simp [maxLen]⟩
  · rw [List.length_map] at *
    exact ⟨_, cap, rfl, h2, h3⟩
theorem add_block (x : Addr) (n : Nat) : (x.add n).block = x.block := by unfold Addr.add; split <;> rfl

theorem bv_oneCell (l : List UInt8) : ∀ u ∈ l.map bv, u.oneCell' = true := by
  intro u hu
  obtain ⟨c, _, rfl⟩ := List.mem_map.1 hu
  rfl

theorem strOfNums_bv (l : List UInt8) : strOfNums (l.map fun c => (c.toNat : Int)) = ⟨l.toArray⟩ := by
  have h : (l.map fun c => (c.toNat : Int)).map (fun n => UInt8.ofNat n.toNat) = l := by
    rw [List.map_map]
    conv => rhs; rw [← List.map_id l]
    apply List.map_congr_left
    intro c _
    simp
  unfold strOfNums
  rw [h]

/-- string(b). -/
theorem Rd.string {P : Program} {w : World} {v : Value} {l : List UInt8} (h : Rd w v l) (src dst e : TypeId) (hs : P.underlying src = some (.slice e)) (he : P.underlying e = some (.int .u8)) (hd : P.underlying dst = some .string) :
    (convert src dst v).run P w = .ok (.string ⟨l.toArray⟩) w := by
  rcases h with ⟨rfl, h1⟩ | ⟨x, cap, rfl, h2, h3, h4⟩
  · have : l = [] := by simpa using h1
    subst this
    rw [run_convert_bytes_nil (P := P) w src e hs he _ _ dst hd]; rfl
  · have hl : (loadCells x (l.map bv).length).run P w = .ok (((l.map fun c => (c.toNat : Int)).map (Value.int .u8)).toArray) w := by
      have := run_loadCells_list (P := P) w x (l.map bv) h4
      rw [this]
      simp [bv]
    rw [run_convert_bytes_string w src dst e _ _ _ hs he hd, run_bytesToString w x _ cap _ hl, foldl_push_bytes]
    have := strOfNums_bv l
    unfold strOfNums at this
    simp only [ByteArray.mk.injEq] at this
    rw [this]
    simp [ByteArray.empty, ByteArray.emptyWithCapacity]
    rfl

theorem u64_or (a b : Nat) (ha : a < 18446744073709551616) (hb : b < 18446744073709551616) : bits BinOp.or IntKind.u64 (a : Int) (b : Int) = ((a ||| b : Nat) : Int) :=
  (bits_nat .u64 64 (by decide) (fun n h0 h1 => IntWalk.u64_in n ⟨h0, by omega⟩) a b ha hb).2
theorem u64_and (a b : Nat) (ha : a < 18446744073709551616) (hb : b < 18446744073709551616) : bits BinOp.and IntKind.u64 (a : Int) (b : Int) = ((a &&& b : Nat) : Int) :=
  (bits_nat .u64 64 (by decide) (fun n h0 h1 => IntWalk.u64_in n ⟨h0, by omega⟩) a b ha hb).1
/-- x times a power of two, or-ed with what is below that power: the sum. -/
theorem nat_or_low (X C i : Nat) (hC : C < 2 ^ i) : (X * 2 ^ i ||| C) = X * 2 ^ i + C := by
  have := Nat.shiftLeft_add_eq_or_of_lt hC X
  rw [Nat.shiftLeft_eq] at this
  exact this.symm
theorem cast_mul_pow (X i : Nat) : ((X : Int) * 2 ^ i) = ((X * 2 ^ i : Nat) : Int) := by rw [Int.natCast_mul, Int.natCast_pow]; rfl
theorem u64_or_low (x c : Int) (i : Nat) (h0 : 0 ≤ x) (hc0 : 0 ≤ c) (hc : c < 2 ^ i) (h1 : x * 2 ^ i + c < 18446744073709551616) : bits BinOp.or IntKind.u64 (x * 2 ^ i) c = x * 2 ^ i + c := by
  obtain ⟨X, rfl⟩ := Int.eq_ofNat_of_zero_le h0
  obtain ⟨C, rfl⟩ := Int.eq_ofNat_of_zero_le hc0
  have hC : C < 2 ^ i := by exact_mod_cast hc
  rw [cast_mul_pow] at h1 ⊢
  rw [u64_or _ _ (by omega) (by omega), nat_or_low X C i hC, Int.natCast_add]

/-- append of a slice (nil or not) to one of the call's own: cells of one value each. -/
theorem wpList_append_rd {P : Program} {w : World} {ops : Array Oper} {rest : List Oper} {o : Oper} {a : Act} {Q : Exit → Act → World → Prop} (hgd : o.guard = none) (s x : Operand) (t : TypeId)
    (ho : o.op = .call { callee := .builtin .append, args := #[s, x], argTypes := #[t, t] })
    (base : Nat) (e : TypeId) (i : TypeInfo) (z : Value) (bytes : Nat) (ht : P.underlying t = some (.slice e)) (hi : P.info? e = some i) (hz : i.zero = some z)
    (hsize : i.size = 1) (hby : i.bytes = bytes) (hzs : z.cells.size = 1)
    (v : Value) (n : Nat) (xs : List Value) (hs : a.eval s = v) (hown : w.ownsRow base e 1 v n xs)
    (u : Value) (news : List Value) (hx : a.eval x = u) (hu : RdV w u news) (h1 : ∀ u ∈ news, u.oneCell' = true)
    (h63 : n + news.length ≤ maxLen) (hbytes : (n + news.length) * bytes ≤ 140737488355328) (hbase : base ≤ w.heap.size)
    (h : ∀ v' w', w'.ownsRow base e 1 v' (n + news.length) (xs ++ news) → w.grownBy w' v.ownBlock → wpList P ops Q rest (a.put o.dst v') w') : wpList P ops Q (o :: rest) a w := by
  rcases hu with ⟨rfl, rfl⟩ | ⟨ad, cap, rfl, h2, h3, h4⟩
  · refine wpList_append_own_none hgd s x t ho base e i 1 ht hi v n xs hs hown hx ?_
    refine h v w ?_ ⟨rfl, rfl, rfl, Nat.le_refl _, fun _ _ _ => rfl⟩
    simpa using hown
  · exact wpList_append_own w hgd s x t ho base e i z 1 bytes ht hi hz hsize hby hzs (by decide) v n xs hs hown ad news.length cap news hx (by rw [Nat.mul_one]) h4 h1 h63 hbytes hbase fun v' w' a b _ => h v' w' a b

/-- []byte(s): a new row that reads as the string's bytes. -/
theorem bytes_of {P : Program} (w : World) (src dst e : TypeId) (s : ByteArray) (hs : P.underlying src = some .string) (hd : P.underlying dst = some (.slice e)) (he : P.underlying e = some (.int .u8)) (hm : s.size ≤ maxLen) :
    ∃ u w', (convert src dst (.string s)).run P w = .ok u w' ∧ Rd w' u s.data.toList ∧ Below w.heap.size w w' := by
  refine ⟨_, _, run_bytes_of_string w src dst e s hs hd he, ?_, ?_⟩
  · have hl : s.data.toList.length = s.size := Array.length_toList
    refine .inr ⟨⟨w.heap.size, 0, none⟩, grownCap w s.size 0 e, by rw [List.length_map, hl], by rw [List.length_map, hl]; exact grownCap_ge w _ _ _, grownCap_le_maxLen w _ _ _ hm, fun i u hu => ?_⟩
    rw [add_at, Nat.zero_add]
    rw [List.getElem?_map] at hu
    obtain ⟨c, hc, rfl⟩ := Option.map_eq_some_iff.1 hu
    have hi : i < s.data.size := by
      have := (List.getElem?_eq_some_iff.1 hc).1
      simpa using this
    show ((w.drew.alloc _).cell? ⟨w.drew.heap.size, i, none⟩) = _
    unfold World.cell?
    rw [heap_alloc_new]
    simp only [Option.isSome_none, Bool.false_eq_true, if_false, bytesRow]
    rw [Array.getElem?_append_left (by simpa using hi), Array.getElem?_map]
    have : s.data[i]? = some c := by rw [← Array.getElem?_toList]; exact hc
    rw [this]
    rfl
  · exact ((Below.refl _ w).drew).alloc (Nat.le_refl _) _

end Go.Proofs.Ytlbilmmjcfiokaa
