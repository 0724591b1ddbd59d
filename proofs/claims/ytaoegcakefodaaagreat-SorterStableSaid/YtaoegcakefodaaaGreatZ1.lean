/-
  Texts of this proof, merged.
-/
import Derived.WalkKit
import Derived.WalkSpells
import Derived.WalkLawsBesides
import Derived.Lib.Hide
import Derived.Laws.BytesArg
import Derived.Laws.AppendOwnNone
import Derived.Laws.IdiomStrings
import Derived.OrdersHeld
import Derived.Deep.Quiet
import Derived.Test.YtaoegcakefodaaaGreatRows
import Derived.Laws.BitsLemmas
import Derived.BigQuiet
import Derived.RegionTactic
import Derived.ChangeAlike
import Derived.ProofKit
import Derived.OpenShut
import Derived.ShutString
import Derived.ChangeOld
import Derived.SliceStrings
import Derived.SizedLaws
import Derived.Lib.SmallJoins
import Derived.Deep.Slices
import Derived.Deep.Fields
namespace Go.Proofs.YtaoegcakefodaaaGreat
def stp (s : BitVec 32) (b : Bool) : BitVec 32 := if s.msb != b then (s <<< 1) ^^^ 0x814141AB#32 else s <<< 1
def feed (s : BitVec 32) (bs : List Bool) : BitVec 32 := bs.foldl stp s
theorem feed_cons (s : BitVec 32) (b : Bool) (t : List Bool) : feed s (b :: t) = feed (stp s b) t := rfl
theorem feed_append (s : BitVec 32) (x y : List Bool) : feed s (x ++ y) = feed (feed s x) y := List.foldl_append
theorem shl_xor (s t : BitVec 32) : (s ^^^ t) <<< 1 = (s <<< 1) ^^^ (t <<< 1) := BitVec.shiftLeft_xor_distrib s t 1
theorem stp_xor (s t : BitVec 32) (a b : Bool) : stp (s ^^^ t) (a ^^ b) = stp s a ^^^ stp t b := by
  unfold stp
  rw [BitVec.msb_xor, shl_xor]
  generalize s <<< 1 = x
  generalize t <<< 1 = y
  have e1 : ∀ p : BitVec 32, (x ^^^ y) ^^^ p = (x ^^^ p) ^^^ y := fun p => by rw [BitVec.xor_assoc, BitVec.xor_comm y p, ← BitVec.xor_assoc]
  have e2 : ∀ p : BitVec 32, (x ^^^ p) ^^^ (y ^^^ p) = x ^^^ y := fun p => by
    rw [BitVec.xor_comm y p, BitVec.xor_assoc, ← BitVec.xor_assoc p p y, BitVec.xor_self, BitVec.zero_xor]
  cases s.msb <;> cases t.msb <;> cases a <;> cases b <;> simp [e1, e2, BitVec.xor_assoc] <;> exact BitVec.xor_comm _ _
theorem feed_xor : ∀ (a b : List Bool) (s t : BitVec 32), a.length = b.length → feed (s ^^^ t) (List.zipWith (· ^^ ·) a b) = feed s a ^^^ feed t b
  | [], [], _, _, _ => rfl
  | x :: a, y :: b, s, t, h => by
    rw [List.zipWith_cons_cons, feed_cons, feed_cons, feed_cons, stp_xor]
    exact feed_xor a b _ _ (by simpa using h)
def bits8 (c : UInt8) : List Bool := [c.toNat.testBit 7, c.toNat.testBit 6, c.toNat.testBit 5, c.toNat.testBit 4, c.toNat.testBit 3, c.toNat.testBit 2, c.toNat.testBit 1, c.toNat.testBit 0]
def bitsOf (l : List UInt8) : List Bool := l.flatMap bits8
def more (s : BitVec 32) (l : List UInt8) : BitVec 32 := feed s (bitsOf l)
theorem bits8_length (c : UInt8) : (bits8 c).length = 8 := rfl
theorem bitsOf_append (x y : List UInt8) : bitsOf (x ++ y) = bitsOf x ++ bitsOf y := List.flatMap_append
theorem more_append (s : BitVec 32) (x y : List UInt8) : more s (x ++ y) = more (more s x) y := by unfold more; rw [bitsOf_append, feed_append]
theorem more_nil (s : BitVec 32) : more s [] = s := rfl
theorem xor_bits (a b : UInt8) : bits8 (a ^^^ b) = List.zipWith (· ^^ ·) (bits8 a) (bits8 b) := by
  simp only [bits8, List.zipWith_cons_cons, List.zipWith_nil_left, UInt8.toNat_xor, Nat.testBit_xor]
def be4 (s : BitVec 32) : List UInt8 := [UInt8.ofNat (s.toNat / 16777216), UInt8.ofNat (s.toNat / 65536 % 256), UInt8.ofNat (s.toNat / 256 % 256), UInt8.ofNat (s.toNat % 256)]
def sumOf (l : List UInt8) : BitVec 32 := more 0xFFFFFFFF#32 l
def sealed (l : List UInt8) : List UInt8 := l ++ be4 (sumOf l)
def stN (n b : Nat) : Nat := if n / 2147483648 = b then n * 2 % 4294967296 else (n * 2 % 4294967296) ^^^ 2168537515
theorem stN_eq (s : BitVec 32) (b : Bool) : stN s.toNat b.toNat = (stp s b).toNat := by
  have hs := s.isLt
  have hm : s.msb.toNat = s.toNat / 2147483648 := by
    rw [BitVec.msb_eq_decide]
    by_cases h : 2147483648 ≤ s.toNat
    · rw [decide_eq_true (by simpa using h)]; simp; omega
    · rw [decide_eq_false (by simpa using h)]; simp; omega
  have h2 : (s <<< 1).toNat = s.toNat * 2 % 4294967296 := by
    rw [BitVec.toNat_shiftLeft, Nat.shiftLeft_eq]
  unfold stN stp
  rw [← hm]
  by_cases h : s.msb = b
  · rw [if_pos (by rw [h]), if_neg (by simp [h]), h2]
  · rw [if_neg (by intro hh; exact h (by revert hh; cases s.msb <;> cases b <;> simp)), if_pos (by simp [h]), BitVec.toNat_xor, h2]
    rfl
end Go.Proofs.YtaoegcakefodaaaGreat

namespace Go.Proofs.YtaoegcakefodaaaGreat
open Go.RowKit
def zeros (n : Nat) : List UInt8 := List.replicate n 0
def id4 (id : Nat) : List UInt8 := [UInt8.ofNat (id / 16777216), UInt8.ofNat (id / 65536), UInt8.ofNat (id / 256), UInt8.ofNat id]
def fill (b : List UInt8) : List UInt8 := b ++ zeros (56 - b.length)
def layP (id : Nat) (b : List UInt8) : List UInt8 := sealed (fill b ++ id4 id)
theorem fill_length (b : List UInt8) (h : b.length ≤ 56) : (fill b).length = 56 := by
  unfold fill zeros
  rw [List.length_append, List.length_replicate]
  omega
theorem layP_length (id : Nat) (b : List UInt8) (h : b.length ≤ 56) : (layP id b).length = 64 := by
  unfold layP sealed be4 id4
  rw [List.length_append, List.length_append, fill_length b h]
  rfl
theorem layP_take (id : Nat) (b : List UInt8) (h : b.length ≤ 56) : (layP id b).take 56 = fill b := by
  unfold layP sealed
  rw [List.append_assoc, List.take_append_of_le_length (by rw [fill_length b h]; exact Nat.le_refl _), List.take_of_length_le (by rw [fill_length b h]; exact Nat.le_refl _)]
theorem fill_full (b : List UInt8) (h : b.length = 56) : fill b = b := by
  unfold fill zeros
  rw [h]
  simp
abbrev St := List (Option (List UInt8))
def usedS (s : St) : Nat := s.countP Option.isSome
def pageS (s : St) (id : Int) : Option (List UInt8) := if 0 ≤ id then (s[id.toNat]?).join else none
def takeS (i : Nat) : Nat → St → List Nat × St
  | 0, s => ([], s)
  | _ + 1, [] => ([], [])
  | n + 1, none :: t => (i :: (takeS (i + 1) n t).1, some (layP i []) :: (takeS (i + 1) n t).2)
  | n + 1, some p :: t => ((takeS (i + 1) (n + 1) t).1, some p :: (takeS (i + 1) (n + 1) t).2)
def allocS (s : St) (n : Int) : (List Nat × Int) × St :=
  if n < 0 then (([], 1), s) else if ((s.length : Int) - usedS s) < n then (([], 4), s) else (((takeS 0 n.toNat s).1, 0), (takeS 0 n.toNat s).2)
def setS (s : St) (id : Int) (p : Option (List UInt8)) : St := s.set id.toNat p
def freeS (s : St) (id : Int) : Int × St := match pageS s id with | none => (2, s) | some _ => (0, setS s id none)
def writeS (s : St) (id : Int) (b : List UInt8) : Int × St :=
  match pageS s id with
  | none => (2, s)
  | some _ => if 56 < b.length then (3, s) else (0, setS s id (some (layP id.toNat b)))
def readS (s : St) (id : Int) : List UInt8 × Int :=
  match pageS s id with
  | none => ([], 2)
  | some p => if layP id.toNat (p.take 56) = p then (p.take 56, 0) else ([], 6)
def needS (n : Int) : Int := if n < 1 then 0 else (n - 1) / 56 + 1
def writesS : List Nat → List UInt8 → St → St
  | [], _, s => s
  | id :: t, b, s => writesS t (b.drop 56) (s.set id (some (layP id (b.take 56))))
def putS (s : St) (b : List UInt8) : (List Nat × Int) × St :=
  if (allocS s (needS b.length)).1.2 = 0 then (((allocS s (needS b.length)).1.1, 0), writesS (allocS s (needS b.length)).1.1 b (allocS s (needS b.length)).2)
  else (([], (allocS s (needS b.length)).1.2), s)
def dropS (s : St) : List Int → St
  | [] => s
  | id :: t => dropS (freeS s id).2 t
def okS (s : St) : Prop := s.length ≤ 4096 ∧ ∀ p, some p ∈ s → p.length = 64
theorem pageS_lt {s : St} {id : Int} {p : List UInt8} (h : pageS s id = some p) : 0 ≤ id ∧ id < s.length ∧ s[id.toNat]? = some (some p) := by
  unfold pageS at h
  split at h
  · rename_i h0
    cases hg : s[id.toNat]? with
    | none => rw [hg] at h; cases h
    | some q =>
      rw [hg] at h
      simp only [Option.join_some] at h
      subst h
      have := (List.getElem?_eq_some_iff.1 hg).1
      exact ⟨h0, by omega, rfl⟩
  · cases h
theorem okS.set {s : St} (h : okS s) (i : Nat) (p : Option (List UInt8)) (hp : ∀ q, p = some q → q.length = 64) : okS (s.set i p) := by
  refine ⟨by rw [List.length_set]; exact h.1, fun q hq => ?_⟩
  rcases List.mem_or_eq_of_mem_set hq with h1 | h1
  · exact h.2 q h1
  · exact hp q h1.symm
theorem takeS_length : ∀ (n i : Nat) (s : St), (takeS i n s).2.length = s.length
  | 0, _, _ => by simp only [takeS]
  | _ + 1, _, [] => rfl
  | n + 1, i, none :: t => by simp only [takeS, List.length_cons, takeS_length n (i + 1) t]
  | n + 1, i, some _ :: t => by simp only [takeS, List.length_cons, takeS_length (n + 1) (i + 1) t]
theorem freeS_ok {s : St} (h : okS s) (id : Int) : okS (freeS s id).2 := by
  unfold freeS
  split
  · exact h
  · exact h.set _ _ (fun q hq => by cases hq)
theorem writesS_ok : ∀ (ids : List Nat) (b : List UInt8) (s : St), okS s → okS (writesS ids b s)
  | [], _, _, h => h
  | id :: t, b, s, h => writesS_ok t _ _ (h.set _ _ (fun q hq => by cases hq; exact layP_length _ _ (by rw [List.length_take]; omega)))
theorem dropS_ok : ∀ (ids : List Int) (s : St), okS s → okS (dropS s ids)
  | [], _, h => h
  | id :: t, _, h => dropS_ok t _ (freeS_ok h id)
end Go.Proofs.YtaoegcakefodaaaGreat

namespace Go.Proofs.YtaoegcakefodaaaGreat
open Go.RowKit
def bv (c : UInt8) : Value := .int .u8 (c.toNat : Int)
def RdV (w : World) (v : Value) (xs : List Value) : Prop :=
  (v = .slice none 0 0 ∧ xs = []) ∨
  ∃ x cap, v = .slice (some x) xs.length cap ∧ xs.length ≤ cap ∧ cap ≤ maxLen ∧ ∀ i u, xs[i]? = some u → w.cell? (x.add i) = some u
def Rd (w : World) (v : Value) (l : List UInt8) : Prop := RdV w v (l.map bv)
theorem lt_of_cell {w : World} {a : Addr} {u : Value} (h : w.cell? a = some u) : a.block < w.heap.size := World.block_lt_of_cell? w a h
theorem RdV.mono {w w' : World} {v : Value} {xs : List Value} (h : RdV w v xs) (hb : Below w.heap.size w w') : RdV w' v xs := by
  rcases h with h | ⟨x, cap, h1, h2, h3, h4⟩
  · exact .inl h
  · refine .inr ⟨x, cap, h1, h2, h3, fun i u hu => ?_⟩
    have hc := h4 i u hu
    exact (hb.cell (lt_of_cell hc)).trans hc
theorem Rd.mono {w w' : World} {v : Value} {l : List UInt8} (h : Rd w v l) (hb : Below w.heap.size w w') : Rd w' v l := RdV.mono h hb
theorem RdV.nil (w : World) : RdV w (.slice none 0 0) [] := .inl ⟨rfl, rfl⟩
theorem Rd.nil (w : World) : Rd w (.slice none 0 0) [] := .inl ⟨rfl, rfl⟩
theorem add_zero (x : Addr) : x.add 0 = x := by unfold Addr.add; simp
theorem plain_of {w : World} {x : Addr} {u : Value} (h : w.cell? x = some u) : ∃ b off, x = ⟨b, off, none⟩ ∧ b < w.heap.size := by
  obtain ⟨b, off, spot⟩ := x
  have hspot : spot = none := World.cell?_spot h
  subst hspot
  exact ⟨b, off, rfl, lt_of_cell h⟩
theorem add_at (b off i : Nat) : (⟨b, off, none⟩ : Addr).add i = ⟨b, off + i, none⟩ := by unfold Addr.add; split <;> simp_all
theorem RdV.of_owns {w : World} {base : Nat} {e : TypeId} {v : Value} {n : Nat} {xs : List Value} (h : w.ownsRow base e 1 v n xs) : RdV w v xs := by
  have hl : xs.length = n := by simpa using h.1
  have hc := fun g hg => h.cells (g := g) hg
  rcases h.2 with ⟨rfl, rfl⟩ | ⟨g, cap, cur, rfl, h1, h2, h3, h4, h5, h6⟩
  · have : xs = [] := List.length_eq_zero_iff.1 hl
    subst this
    exact RdV.nil w
  · exact .inr ⟨_, cap, by rw [hl], by omega, h4, fun i u hu => hc g rfl i u hu⟩
theorem RdV.takes {w : World} {x : Addr} {cap : Nat} {xs : List Value} (h2 : xs.length ≤ cap) (h3 : cap ≤ maxLen) (h4 : ∀ i u, xs[i]? = some u → w.cell? (x.add i) = some u) (n m : Nat) (hn : m = min n xs.length) : RdV w (.slice (some x) m cap) (xs.take n) := by
  subst hn
  refine .inr ⟨x, cap, by rw [List.length_take], by rw [List.length_take]; omega, h3, fun i u hu => h4 i u ?_⟩
  rw [List.getElem?_take] at hu
  split at hu
  · exact hu
  · cases hu
theorem Rd.shape {w : World} {v : Value} {l : List UInt8} (h : Rd w v l) : ∃ a cap, v = .slice a l.length cap ∧ l.length ≤ cap ∧ cap ≤ maxLen := by
  rcases h with ⟨rfl, h1⟩ | ⟨x, cap, rfl, h2, h3, _⟩
  · have : l = [] := by simpa using h1
    subst this
    exact ⟨none, 0, rfl, Nat.le_refl _, by simp [maxLen]⟩
  · rw [List.length_map] at *
    exact ⟨_, cap, rfl, h2, h3⟩
theorem add_block (x : Addr) (n : Nat) : (x.add n).block = x.block := by unfold Addr.add; split <;> rfl
theorem bv_oneCell (l : List UInt8) : ∀ u ∈ l.map bv, u.oneCell' = true := by
  intro u hu
  obtain ⟨c, _, rfl⟩ := List.mem_map.1 hu
  rfl
theorem strOfNums_bv (l : List UInt8) : strOfNums (l.map fun c => (c.toNat : Int)) = ⟨l.toArray⟩ := by
  have h : (l.map fun c => (c.toNat : Int)).map (fun n => UInt8.ofNat n.toNat) = l := by
    rw [List.map_map]
    conv => rhs; rw [← List.map_id l]
    apply List.map_congr_left
    intro c _
    simp
  unfold strOfNums
  rw [h]
theorem Rd.string {P : Program} {w : World} {v : Value} {l : List UInt8} (h : Rd w v l) (src dst e : TypeId) (hs : P.underlying src = some (.slice e)) (he : P.underlying e = some (.int .u8)) (hd : P.underlying dst = some .string) :
    (convert src dst v).run P w = .ok (.string ⟨l.toArray⟩) w := by
  rcases h with ⟨rfl, h1⟩ | ⟨x, cap, rfl, h2, h3, h4⟩
  · have : l = [] := by simpa using h1
    subst this
    rw [run_convert_bytes_nil (P := P) w src e hs he _ _ dst hd]; rfl
  · have hl : (loadCells x (l.map bv).length).run P w = .ok (((l.map fun c => (c.toNat : Int)).map (Value.int .u8)).toArray) w := by
      have := run_loadCells_list (P := P) w x (l.map bv) h4
      rw [this]
      simp [bv]
    rw [run_convert_bytes_string w src dst e _ _ _ hs he hd, run_bytesToString w x _ cap _ hl, foldl_push_bytes]
    have := strOfNums_bv l
    unfold strOfNums at this
    simp only [ByteArray.mk.injEq] at this
    rw [this]
    simp [ByteArray.empty, ByteArray.emptyWithCapacity]
    rfl
theorem u64_or (a b : Nat) (ha : a < 18446744073709551616) (hb : b < 18446744073709551616) : bits BinOp.or IntKind.u64 (a : Int) (b : Int) = ((a ||| b : Nat) : Int) :=
  (bits_nat .u64 64 (by decide) (fun n h0 h1 => IntWalk.u64_in n ⟨h0, by omega⟩) a b ha hb).2
theorem u64_and (a b : Nat) (ha : a < 18446744073709551616) (hb : b < 18446744073709551616) : bits BinOp.and IntKind.u64 (a : Int) (b : Int) = ((a &&& b : Nat) : Int) :=
  (bits_nat .u64 64 (by decide) (fun n h0 h1 => IntWalk.u64_in n ⟨h0, by omega⟩) a b ha hb).1
theorem nat_or_low (X C i : Nat) (hC : C < 2 ^ i) : (X * 2 ^ i ||| C) = X * 2 ^ i + C := by
  have := Nat.shiftLeft_add_eq_or_of_lt hC X
  rw [Nat.shiftLeft_eq] at this
  exact this.symm
theorem cast_mul_pow (X i : Nat) : ((X : Int) * 2 ^ i) = ((X * 2 ^ i : Nat) : Int) := by rw [Int.natCast_mul, Int.natCast_pow]; rfl
theorem u64_or_low (x c : Int) (i : Nat) (h0 : 0 ≤ x) (hc0 : 0 ≤ c) (hc : c < 2 ^ i) (h1 : x * 2 ^ i + c < 18446744073709551616) : bits BinOp.or IntKind.u64 (x * 2 ^ i) c = x * 2 ^ i + c := by
  obtain ⟨X, rfl⟩ := Int.eq_ofNat_of_zero_le h0
  obtain ⟨C, rfl⟩ := Int.eq_ofNat_of_zero_le hc0
  have hC : C < 2 ^ i := by exact_mod_cast hc
  rw [cast_mul_pow] at h1 ⊢
  rw [u64_or _ _ (by omega) (by omega), nat_or_low X C i hC, Int.natCast_add]
theorem wpList_append_rd {P : Program} {w : World} {ops : Array Oper} {rest : List Oper} {o : Oper} {a : Act} {Q : Exit → Act → World → Prop} (hgd : o.guard = none) (s x : Operand) (t : TypeId)
    (ho : o.op = .call { callee := .builtin .append, args := #[s, x], argTypes := #[t, t] })
    (base : Nat) (e : TypeId) (i : TypeInfo) (z : Value) (bytes : Nat) (ht : P.underlying t = some (.slice e)) (hi : P.info? e = some i) (hz : i.zero = some z)
    (hsize : i.size = 1) (hby : i.bytes = bytes) (hzs : z.cells.size = 1)
    (v : Value) (n : Nat) (xs : List Value) (hs : a.eval s = v) (hown : w.ownsRow base e 1 v n xs)
    (u : Value) (news : List Value) (hx : a.eval x = u) (hu : RdV w u news) (h1 : ∀ u ∈ news, u.oneCell' = true)
    (h63 : n + news.length ≤ maxLen) (hbytes : (n + news.length) * bytes ≤ 140737488355328) (hbase : base ≤ w.heap.size)
    (h : ∀ v' w', w'.ownsRow base e 1 v' (n + news.length) (xs ++ news) → w.grownBy w' v.ownBlock → wpList P ops Q rest (a.put o.dst v') w') : wpList P ops Q (o :: rest) a w := by
  rcases hu with ⟨rfl, rfl⟩ | ⟨ad, cap, rfl, h2, h3, h4⟩
  · refine wpList_append_own_none hgd s x t ho base e i 1 ht hi v n xs hs hown hx ?_
    refine h v w ?_ ⟨rfl, rfl, rfl, Nat.le_refl _, fun _ _ _ => rfl⟩
    simpa using hown
  · exact wpList_append_own w hgd s x t ho base e i z 1 bytes ht hi hz hsize hby hzs (by decide) v n xs hs hown ad news.length cap news hx (by rw [Nat.mul_one]) h4 h1 h63 hbytes hbase fun v' w' a b _ => h v' w' a b
end Go.Proofs.YtaoegcakefodaaaGreat

namespace Go.Proofs.YtaoegcakefodaaaGreat
open Go.RowKit
structure Later (R : World → World → Prop) (w : World) where
  val : World
  ext : R w val
structure Keeps (R : World → World → Prop) : Prop where
  refl : ∀ w, R w w
  trans : ∀ a b c, R a b → R b c → R a c
def Ext (w w' : World) : Prop := Below w.heap.size w w'
def Free (_ _ : World) : Prop := True
theorem ext_trans {a b c : World} (h : Below a.heap.size a b) (k : Below b.heap.size b c) : Below a.heap.size a c := h.trans (k.mono h.size)
theorem Ext.keeps : Keeps Ext := ⟨fun _ => Below.refl _ _, fun _ _ _ => ext_trans⟩
theorem Free.keeps : Keeps Free := ⟨fun _ => trivial, fun _ _ _ _ _ => trivial⟩
instance (w : World) : Inhabited (Later Ext w) := ⟨⟨w, Below.refl _ _⟩⟩
instance (w : World) : Inhabited (Later Free w) := ⟨⟨w, trivial⟩⟩
theorem Ext.drew (w : World) : Ext w w.drew := (Below.refl _ _).drew
theorem Ext.trans {a b c : World} (h : Ext a b) (k : Ext b c) : Ext a c := Ext.keeps.trans _ _ _ h k
def calmOp : Op → Bool
  | .move _ | .assign _ | .pick .. | .load .. | .build .. | .nilCheck _ | .binOp .. | .unOp .. | .convert .. | .slice .. | .fieldAddr .. | .field .. | .indexAddr .. | .index .. | .extract .. | .makeInterface .. | .typeAssert .. | .lookup .. | .sliceToArrayPointer .. => true
  | .call c => match c.callee with | .builtin .len | .builtin .cap | .builtin .min | .builtin .max => true | _ => false
  | _ => false
theorem value_of_bind {P : Program} {s : Sem Value} {w w' : World} {n : Next} (h : (do pure (Next.value (← s)) : Sem Next).run P w = .ok n w') : ∃ v, n = .value v := by
  simp only [Sem.run_bind] at h
  cases hs : s.run P w with
  | ok a w1 => rw [hs] at h; simp [Result.andThen] at h; exact ⟨a, h.1.symm⟩
  | halt x w1 => rw [hs] at h; simp [Result.andThen] at h
theorem value_of_andThen {r : Result Value} {w' : World} {n : Next} (h : (r.andThen fun a w' => Result.ok (Next.value a) w') = .ok n w') : ∃ v, n = .value v := by
  cases r with
  | ok a w1 => simp [Result.andThen] at h; exact ⟨a, h.1.symm⟩
  | halt x w1 => simp [Result.andThen] at h
theorem nilDeref_not {P : Program} {w w' : World} {n : Next} (h : (runtimePanic .nilDeref : Sem Next).run P w = .ok n w') : False := by
  unfold runtimePanic at h
  simp [goPanic, go_sem] at h
theorem calm_value {P : Program} {ρ : Operand → Value} {o : Oper} {w w' : World} {n : Next} (hc : calmOp o.op = true) (h : (execOp ρ o).run P w = .ok n w') : ∃ v, n = .value v := by
  obtain ⟨dst, op, type, pos, after, guard⟩ := o
  cases op <;> simp only [calmOp, Bool.false_eq_true] at hc <;> simp only [execOp] at h
  case move => simp at h; exact ⟨_, h.1.symm⟩
  case assign => simp at h; exact ⟨_, h.1.symm⟩
  case pick c a b =>
    simp only [Sem.run_bind] at h
    cases hs : (asBool (ρ c)).run P w with
    | ok t w1 => rw [hs] at h; simp [Result.andThen] at h; exact ⟨_, h.1.symm⟩
    | halt x w1 => rw [hs] at h; simp [Result.andThen] at h
  case nilCheck x =>
    split at h
    · exact (nilDeref_not h).elim
    · exact (nilDeref_not h).elim
    · exact (nilDeref_not h).elim
    · split at h
      · exact (nilDeref_not h).elim
      · simp only [Sem.run_bind] at h
        simp [Result.andThen] at h
        split at h
        · split at h
          · simp at h; exact ⟨_, h.1.symm⟩
          · simp [go_sem] at h
        · cases h
      · simp at h; exact ⟨_, h.1.symm⟩
    · simp at h; exact ⟨_, h.1.symm⟩
  case call c =>
    obtain ⟨callee, args, argTypes⟩ := c
    cases callee with
    | builtin b => cases b <;> simp only [Bool.false_eq_true] at hc <;> (simp only [resolve, invoke, builtin, Sem.run_bind, Sem.run_pure, Result.andThen_ok] at h; exact value_of_andThen h)
    | _ => simp at hc
  all_goals exact value_of_bind h
def pickOps (ops : Array Oper) (l : List Nat) : List Oper := l.map fun i => (ops[i]?).getD default
def wpSegs (P : Program) (R : World → World → Prop) (ops : Array Oper) (Q : Exit → Act → World → Prop) : List (List Oper × Option Oper) → Act → World → Prop
  | [], a, w => Q .normal a w
  | (qs, none) :: rest, a, w => wpQuiet P ops (fun w' => ∃ p : Later R w, w' = p.val) (fun a' => wpSegs P R ops Q rest a' w) qs a
  | (qs, some o) :: rest, a, w => wpQuiet P ops (fun w' => ∃ p : Later R w, w' = p.val) (fun a' => wpList P ops (Exit.then (fun a'' w'' => R w w'' ∧ wpSegs P R ops Q rest a'' w'') Q) [o] a' w) qs a
def quietOk (ops : Array Oper) : List Nat → Array Bool → Bool
  | [], _ => true
  | i :: qs, listed => (Region.ready .any ops listed).contains i && Region.free .any ops listed i && ((ops[i]?).map fun o => calmOp o.op).getD false && quietOk ops qs (listed.setIfInBounds i true)
def marked : List Nat → Array Bool → Array Bool
  | [], listed => listed
  | i :: qs, listed => marked qs (listed.setIfInBounds i true)
def segsOk (ops : Array Oper) : List (List Nat × Option Nat) → Array Bool → Bool
  | [], listed => (Region.ready .any ops listed).isEmpty
  | (qs, none) :: rest, listed => quietOk ops qs listed && segsOk ops rest (marked qs listed)
  | (qs, some i) :: rest, listed => quietOk ops qs listed && (Region.ready .any ops (marked qs listed) == [i]) && segsOk ops rest ((marked qs listed).setIfInBounds i true)
def segsCount : List (List Nat × Option Nat) → Nat
  | [] => 0
  | (qs, none) :: rest => qs.length + segsCount rest
  | (qs, some _) :: rest => qs.length + (segsCount rest + 1)
def pickSegs (ops : Array Oper) (l : List (List Nat × Option Nat)) : List (List Oper × Option Oper) := l.map fun s => (pickOps ops s.1, s.2.map fun i => (ops[i]?).getD default)
section
variable {P : Program} {ops : Array Oper} {Q : Exit → Act → World → Prop} {R : World → World → Prop}
theorem wpAnyH_weaken {S S' : World → Prop} (h : ∀ w, S w → S' w) : ∀ (fuel : Nat) (listed : Array Bool) (a : Act) (w : World), wpAnyH P .any ops Q S fuel listed a w → wpAnyH P .any ops Q S' fuel listed a w
  | 0, _, _, _, hh => hh
  | fuel + 1, _, _, _, hh => ⟨hh.1, fun i hi => wpOp_mono (fun _ _ h' => ⟨h _ h'.1, wpAnyH_weaken h fuel _ _ _ h'.2⟩) (hh.2 i hi)⟩
theorem quietSeg (hR : Keeps R) (hs : Region.noSelect ops = true) (hQ : ∀ c (a : Act) (i : Nat) (o : Oper) v w, ops[i]? = some o → Q (.panic c) (a.put o.dst v) w → Q (.panic c) a w) {K : Act → Prop} {w : World} (fuel : Nat) :
    ∀ (qs : List Nat) (listed : Array Bool) (a : Act), quietOk ops qs listed = true → wpQuiet P ops (fun w' => ∃ p : Later R w, w' = p.val) K (pickOps ops qs) a →
      (∀ a', K a' → wpAnyH P .any ops Q (R w) fuel (marked qs listed) a' w) → wpAnyH P .any ops Q (R w) (qs.length + fuel) listed a w
  | [], listed, a, _, h, hk => by
    simp only [List.length_nil, Nat.zero_add]
    exact hk a h
  | i :: qs, listed, a, hok, h, hk => by
    simp only [quietOk, Bool.and_eq_true] at hok
    obtain ⟨⟨⟨hr, hf⟩, hc⟩, hrest⟩ := hok
    cases ho : ops[i]? with
    | none => simp [ho] at hc
    | some o =>
      simp only [ho, Option.map_some, Option.getD_some] at hc
      have hp : pickOps ops (i :: qs) = o :: pickOps ops qs := by simp [pickOps, ho]
      rw [hp] at h
      simp only [wpQuiet] at h
      rw [List.length_cons, Nat.add_right_comm]
      by_cases hw : Region.wanted o (yielded ops a.tmps) = true
      · rw [if_pos hw] at h
        obtain ⟨v, hv, hnext⟩ := h
        refine wpAnyH_take (v := v) ho hs hf hr (fun c a' w' hq => hQ c _ _ _ _ w' ho hq) (.inl ⟨hw, fun w' hw' => ?_⟩) (hR.refl _) (quietSeg hR hs hQ fuel qs _ _ hrest hnext hk)
        have hq := hv w' ⟨⟨w', hw'⟩, rfl⟩
        unfold Oper.quietAt at hq
        generalize hrun : (execOp a.eval o).run P w' = r at hq
        cases r with
        | ok n w1 =>
          obtain ⟨u, rfl⟩ := calm_value hc hrun
          simp only [Oper.quietUpon] at hq
          rw [hq.1, hq.2]
        | halt x w1 => simp only [Oper.quietUpon] at hq
      · rw [if_neg hw] at h
        exact wpAnyH_take (v := undef) ho hs hf hr (fun c a' w' hq => hQ c _ _ _ _ w' ho hq) (.inr ⟨by simpa using hw, rfl⟩) (hR.refl _) (quietSeg hR hs hQ fuel qs _ _ hrest h hk)
theorem wpOp_of_list {i : Nat} {o : Oper} {K : Act → World → Prop} {a : Act} {w : World} (ho : ops[i]? = some o) (h : wpList P ops (Exit.then K Q) [o] a w) : wpOp P ops Q i K a w := by
  unfold wpOp
  simp only [ho]
  simp only [wpList] at h
  split
  · rename_i hw
    rw [if_pos hw] at h
    rcases h with h | ⟨h1, h2⟩
    · refine .inl ?_
      unfold Oper.wp at *
      generalize (execOp a.eval o).run P w = r at *
      cases r with
      | ok n w' =>
        cases n <;> simp only [Oper.upon] at h ⊢ <;> first
          | exact h
          | exact Calls.mono h (fun e w'' he => by cases e <;> exact he)
          | exact Rows.mono h (fun _ _ he => he)
      | halt x w' => cases x <;> simp only [Oper.upon] at h ⊢ <;> exact h
    · exact .inr ⟨h1, h2⟩
  · rename_i hw
    rw [if_neg hw] at h
    exact h
theorem segs_sound (hR : Keeps R) (hs : Region.noSelect ops = true) (hQ : ∀ c (a : Act) (i : Nat) (o : Oper) v w, ops[i]? = some o → Q (.panic c) (a.put o.dst v) w → Q (.panic c) a w) :
    ∀ (segs : List (List Nat × Option Nat)) (listed : Array Bool) (a : Act) (w : World) (fuel : Nat), segsOk ops segs listed = true → wpSegs P R ops Q (pickSegs ops segs) a w →
      wpAnyH P .any ops Q (R w) (segsCount segs + fuel) listed a w
  | [], listed, a, w, fuel, hok, h => wpAnyH_done (by simpa [segsOk] using hok) h _
  | (qs, none) :: rest, listed, a, w, fuel, hok, h => by
    simp only [segsOk, Bool.and_eq_true] at hok
    rw [segsCount, Nat.add_assoc]
    exact quietSeg hR hs hQ _ qs listed a hok.1 h fun a' h' => segs_sound hR hs hQ rest _ _ _ fuel hok.2 h'
  | (qs, some i) :: rest, listed, a, w, fuel, hok, h => by
    simp only [segsOk, Bool.and_eq_true, beq_iff_eq] at hok
    obtain ⟨⟨h1, h2⟩, h3⟩ := hok
    have hi : ∃ o, ops[i]? = some o := by
      have : i ∈ Region.ready .any ops (marked qs listed) := by rw [h2]; simp
      obtain ⟨_, o, ho, _⟩ := mem_ready.1 this
      exact ⟨o, ho⟩
    obtain ⟨o, ho⟩ := hi
    have hp : pickSegs ops ((qs, some i) :: rest) = (pickOps ops qs, some o) :: pickSegs ops rest := by simp [pickSegs, ho]
    rw [hp] at h
    rw [segsCount, Nat.add_assoc, Nat.add_right_comm]
    refine quietSeg hR hs hQ _ qs listed a h1 h fun a' h' => wpAnyH_all h2 (by simp) fun j hj => ?_
    obtain rfl : j = i := by simpa using hj
    refine wpOp_mono (fun a'' w'' h'' => ⟨h''.1, ?_⟩) (wpOp_of_list ho h')
    exact wpAnyH_weaken (fun w3 h3' => hR.trans _ _ _ h''.1 h3') _ _ _ _ (segs_sound hR hs hQ rest _ _ _ fuel h3 h''.2)
theorem wp_region_segs {id : Nat} {a : Act} {w : World} {l : List Oper} (R : World → World → Prop) (hR : Keeps R) (segs : List (List Nat × Option Nat)) (hm : P.follows .mixedOrders = true)
    (hok : (Region.noSelect l.toArray && segsOk l.toArray segs (Array.replicate l.length false) && (segsCount segs == l.length)) = true)
    {Q : Exit → Act → World → Prop} (hQ : ∀ c (a a' : Act) w, a.defers = a'.defers → Q (.panic c) a w → Q (.panic c) a' w)
    (h : wpSegs P R l.toArray Q (pickSegs l.toArray segs) a w.drew) : (Code.region id l.toArray true).wp P Q a w := by
  simp only [Bool.and_eq_true, beq_iff_eq] at hok
  have := segs_sound (P := P) hR hok.1.1 (fun c a i o v w _ hq => hQ c _ a w (by cases o.dst <;> rfl) hq) segs (Array.replicate l.length false) a w.drew 0 hok.1.2 h
  rw [hok.2, Nat.add_zero] at this
  refine wp_region_held (S := R w.drew) hm ?_
  simpa using this
theorem wpSegs_nil {a : Act} {w : World} (h : Q .normal a w) : wpSegs P R ops Q [] a w := h
theorem wpSegs_none {qs : List Oper} {rest : List (List Oper × Option Oper)} {a : Act} {w : World}
    (h : wpQuiet P ops (fun w' => ∃ p : Later R w, w' = p.val) (fun a' => wpSegs P R ops Q rest a' w) qs a) : wpSegs P R ops Q ((qs, none) :: rest) a w := h
theorem wpSegs_some {qs : List Oper} {o : Oper} {rest : List (List Oper × Option Oper)} {a : Act} {w : World}
    (h : ∀ K : Act → World → Prop, (∀ a w, wpSegs P R ops Q rest a w → K a w) → wpQuiet P ops (fun w' => ∃ p : Later R w, w' = p.val) (fun a' => wpList P ops (Exit.then (fun a'' w'' => R w w'' ∧ K a'' w'') Q) [o] a' w) qs a) : wpSegs P R ops Q ((qs, some o) :: rest) a w :=
  h _ fun _ _ hh => hh
end
end Go.Proofs.YtaoegcakefodaaaGreat

namespace Go.Proofs.YtaoegcakefodaaaGreat
open Go.RowKit
theorem Tryz.info5 : (Tryz.prog.info? 5).map (fun i => (i.zero, i.size, i.bytes)) = some (some (.int .u8 0), 1, 1) := by kernel_rfl
def Fresh (e : TypeId) (w : World) (xs : List Value) (r : Ending) (w' : World) : Prop :=
  ∃ v, r = .returned v ∧ w'.ownsRow w.heap.size e 1 v xs.length xs ∧ Below w.heap.size w w'
theorem kept_cells {w w' : World} (hg : w.grownBy w' none) {x : Addr} {xs : List Value} (h : ∀ i u, xs[i]? = some u → w.cell? (x.add i) = some u) : ∀ i u, xs[i]? = some u → w'.cell? (x.add i) = some u :=
  fun i u hu => hg.cell (h i u hu) (by simp)
theorem empty_owned (w : World) : (w.alloc (.cells #[] 5)).ownsRow w.heap.size 5 1 (.slice (some ⟨w.heap.size, 0, none⟩) 0 0) 0 [] := World.ownsRow_made w #[] 0 (Nat.le_refl _) (by simp [maxLen]) rfl
theorem owns_shape {base : Nat} {e : TypeId} {w : World} {v : Value} {n : Nat} {xs : List Value} (h : w.ownsRow base e 1 v n xs) (hn : 0 < n) : ∃ g cap, v = .slice (some ⟨g, 0, none⟩) n cap ∧ base ≤ g ∧ g < w.heap.size ∧ n ≤ cap ∧ cap ≤ maxLen := by
  rcases h.2 with ⟨_, h0⟩ | ⟨g, cap, cur, rfl, hb, hg, h1, h2, _⟩
  · omega
  · exact ⟨g, cap, rfl, hb, (Array.getElem?_eq_some_iff.1 hg).1, h1, h2⟩
theorem RdV.cellsAt {w : World} {v : Value} {xs : List Value} (h : RdV w v xs) :
    ∃ ao cap, v = .slice ao xs.length cap ∧ xs.length ≤ cap ∧ cap ≤ maxLen ∧ ∀ i u, xs[i]? = some u → ∃ x, ao = some x ∧ w.cell? (x.add i) = some u := by
  rcases h with ⟨rfl, rfl⟩ | ⟨x, cap, rfl, h2, h3, h4⟩
  · exact ⟨none, 0, rfl, Nat.le_refl _, by simp [maxLen], fun i u hu => by simp at hu⟩
  · exact ⟨some x, cap, rfl, h2, h3, fun i u hu => ⟨x, rfl, h4 i u hu⟩⟩
end Go.Proofs.YtaoegcakefodaaaGreat

namespace Go.Proofs.YtaoegcakefodaaaGreat
open Go.RowKit
theorem u32_xor (a b : Nat) (ha : a < 4294967296) (hb : b < 4294967296) : bits BinOp.xor IntKind.u32 (a : Int) (b : Int) = ((a ^^^ b : Nat) : Int) := by
  have h : a ^^^ b < 2 ^ 32 := Nat.xor_lt_two_pow ha hb
  have ha' : a % 2 ^ IntKind.u32.bits = a := Nat.mod_eq_of_lt ha
  have hb' : b % 2 ^ IntKind.u32.bits = b := Nat.mod_eq_of_lt hb
  simp only [bits, BitVec.ofInt_natCast, BitVec.toNat_xor, BitVec.toNat_ofNat, ha', hb']
  exact IntWalk.u32_in _ ⟨by omega, by omega⟩
theorem more_step (s : BitVec 32) (l : List UInt8) (j : Nat) (h : j < l.length) : more s (l.take (j + 1)) = feed (more s (l.take j)) (bits8 l[j]) := by
  rw [List.take_succ_eq_append_getElem h, more_append]
  unfold more bitsOf
  rw [List.flatMap_cons, List.flatMap_nil, List.append_nil]
theorem cells_new (w : World) (xs : List Value) (t : TypeId) : ∀ j u, xs[j]? = some u → (w.alloc (.cells xs.toArray t)).cell? ((⟨w.heap.size, 0, none⟩ : Addr).add j) = some u := by
  intro j u hj
  rw [add_at, Nat.zero_add]
  unfold World.cell?
  rw [heap_alloc_new]
  simpa using hj
theorem be4_values (s : BitVec 32) : (be4 s).map bv = [Value.int .u8 ((s.toNat : Int) / 16777216), Value.int .u8 ((s.toNat : Int) / 65536 % 256), Value.int .u8 ((s.toNat : Int) / 256 % 256), Value.int .u8 ((s.toNat : Int) % 256)] := by
  have hs := s.isLt
  simp only [be4, bv, List.map_cons, List.map_nil, UInt8.toNat_ofNat', show (2 : Nat) ^ 8 = 256 by rfl, Nat.mod_mod]
  rw [Nat.mod_eq_of_lt (show s.toNat / 16777216 < 256 by omega)]
  simp
end Go.Proofs.YtaoegcakefodaaaGreat

namespace Go.Proofs.YtaoegcakefodaaaGreat
open Go.RowKit
theorem row_new (w : World) (xs : List Value) (t : TypeId) : ∀ j u, xs[j]? = some u → (w.alloc (.cells xs.toArray t)).cell? ((⟨w.heap.size, 0, none⟩ : Addr).add j) = some u := by
  intro j u hj
  rw [add_at, Nat.zero_add]
  unfold World.cell?
  rw [heap_alloc_new]
  simpa using hj
theorem ext_new (w : World) (o : Obj) : Ext w (w.alloc o) := (Below.refl _ w).alloc (Nat.le_refl _) _
def OnlyP (g : Nat) (w w' : World) : Prop := w.grownBy w' (some g)
theorem OnlyP.refl (g : Nat) (w : World) : OnlyP g w w := ⟨rfl, rfl, rfl, Nat.le_refl _, fun _ _ _ => rfl⟩
theorem OnlyP.trans {g : Nat} {x y z : World} (h : OnlyP g x y) (k : OnlyP g y z) : OnlyP g x z :=
  ⟨k.os.trans h.os, k.tape.trans h.tape, k.output.trans h.output, Nat.le_trans h.size k.size, fun i hi hne => (k.block i (Nat.lt_of_lt_of_le hi h.size) hne).trans (h.block i hi hne)⟩
theorem OnlyP.keeps (g : Nat) : Keeps (OnlyP g) := ⟨OnlyP.refl g, fun _ _ _ h k => OnlyP.trans h k⟩
instance (g : Nat) (w : World) : Inhabited (Later (OnlyP g) w) := ⟨⟨w, OnlyP.refl _ _⟩⟩
theorem OnlyP.of_ext {g : Nat} {w w' : World} (h : Ext w w') : OnlyP g w w' := ⟨h.os, h.tape, h.output, h.size, fun k hk _ => h.block k hk⟩
theorem OnlyP.set (g i : Nat) (w : World) (u : Value) : OnlyP g w (w.setCell ⟨g, i, none⟩ u) := by
  refine ⟨rfl, rfl, rfl, by simp [World.setCell], fun k _ hk => ?_⟩
  rw [Below.heap_setCell _ _ _ _ (fun e => hk (by rw [e]))]
theorem cell_set_other {w : World} {g i j : Nat} {b : Nat} {u : Value} (h : b ≠ g ∨ j ≠ i) : (w.setCell ⟨g, i, none⟩ u).cell? ⟨b, j, none⟩ = w.cell? ⟨b, j, none⟩ := by
  rw [World.cell?_setCell_other]
  intro e
  simp only [Addr.mk.injEq, and_true] at e
  rcases h with h | h
  · exact h e.1.symm
  · exact h e.2.symm
structure OnlyS (X : Nat → Prop) (w w' : World) : Prop where
  os : w'.os = w.os
  tape : w'.tape = w.tape
  output : w'.output = w.output
  size : w.heap.size ≤ w'.heap.size
  block : ∀ b, b < w.heap.size → ¬ X b → w'.heap[b]? = w.heap[b]?
theorem OnlyS.refl (X : Nat → Prop) (w : World) : OnlyS X w w := ⟨rfl, rfl, rfl, Nat.le_refl _, fun _ _ _ => rfl⟩
theorem OnlyS.of_ext {X : Nat → Prop} {w w' : World} (h : Ext w w') : OnlyS X w w' := ⟨h.os, h.tape, h.output, h.size, fun b hb _ => h.block b hb⟩
theorem OnlyS.of_onlyP {X : Nat → Prop} {g : Nat} {w w' : World} (h : OnlyP g w w') (hg : X g) : OnlyS X w w' :=
  ⟨h.os, h.tape, h.output, h.size, fun b hb hx => h.block b hb (fun e => hx (by have : b = g := (by simpa using e); rw [this]; exact hg))⟩
theorem OnlyS.mono {X Y : Nat → Prop} {w w' : World} (h : OnlyS X w w') (hxy : ∀ b, b < w.heap.size → X b → Y b) : OnlyS Y w w' := ⟨h.os, h.tape, h.output, h.size, fun b hb hy => h.block b hb (fun hx => hy (hxy b hb hx))⟩
theorem OnlyS.trans {X Y : Nat → Prop} {a b c : World} (h : OnlyS X a b) (k : OnlyS Y b c) (hy : ∀ i, i < a.heap.size → Y i → X i) : OnlyS X a c :=
  ⟨k.os.trans h.os, k.tape.trans h.tape, k.output.trans h.output, Nat.le_trans h.size k.size, fun i hi hx => (k.block i (Nat.lt_of_lt_of_le hi h.size) (fun hyi => hx (hy i hi hyi))).trans (h.block i hi hx)⟩
theorem OnlyS.below {X : Nat → Prop} {N : Nat} {w w' : World} (h : OnlyS X w w') (hN : N ≤ w.heap.size) (hX : ∀ b, X b → N ≤ b) : Below N w w' :=
  ⟨h.os, h.tape, h.output, h.size, fun b hb => h.block b (by omega) (fun hx => by have := hX b hx; omega)⟩
theorem OnlyS.cell {X : Nat → Prop} {w w' : World} (h : OnlyS X w w') {a : Addr} {u : Value} (hc : w.cell? a = some u) (hx : ¬ X a.block) : w'.cell? a = some u := by
  have hlt := lt_of_cell hc
  rw [← hc]
  exact World.cell?_of_block (h.block _ hlt hx)
theorem RdV.onlyS {X : Nat → Prop} {w w' : World} {v : Value} {xs : List Value} (hr : RdV w v xs) (h : OnlyS X w w') (hx : xs ≠ [] → ∀ k, v.ownBlock = some k → ¬ X k) : RdV w' v xs := by
  rcases hr with h1 | ⟨x, cap, rfl, h2, h3, h4⟩
  · exact .inl h1
  · exact .inr ⟨x, cap, rfl, h2, h3, fun i u hu => h.cell (h4 i u hu) (by rw [add_block]; exact hx (by rintro rfl; simp at hu) x.block rfl)⟩
theorem Rd.onlyS {X : Nat → Prop} {w w' : World} {v : Value} {l : List UInt8} (hr : Rd w v l) (h : OnlyS X w w') (hx : l ≠ [] → ∀ k, v.ownBlock = some k → ¬ X k) : Rd w' v l := RdV.onlyS hr h (fun hne => hx (by rintro rfl; exact hne rfl))
theorem OnlyS.of_grown {v : Value} {w w' : World} (h : w.grownBy w' v.ownBlock) : OnlyS (fun k => v.ownBlock = some k) w w' :=
  ⟨h.os, h.tape, h.output, h.size, fun b hb hx => h.block b hb (fun e => hx e.symm)⟩
theorem OnlyS.keeps (X : Nat → Prop) : Keeps (OnlyS X) := ⟨OnlyS.refl X, fun _ _ _ h k => OnlyS.trans h k fun _ _ h => h⟩
instance (X : Nat → Prop) (w : World) : Inhabited (Later (OnlyS X) w) := ⟨⟨w, OnlyS.refl _ _⟩⟩
end Go.Proofs.YtaoegcakefodaaaGreat

namespace Go.Proofs.YtaoegcakefodaaaGreat
open Go.RowKit
theorem own_shape {base : Nat} {e : TypeId} {w : World} {v : Value} {n : Nat} {xs : List Value} (h : w.ownsRow base e 1 v n xs) : ∃ a cap, v = .slice a n cap ∧ n ≤ cap ∧ cap ≤ maxLen := by
  rcases h.2 with ⟨rfl, rfl⟩ | ⟨g, cap, cur, rfl, h2, h3, h4, h5, _⟩
  · exact ⟨none, 0, rfl, Nat.le_refl _, by simp [maxLen]⟩
  · exact ⟨_, cap, rfl, h4, h5⟩
theorem id4_values (id : Nat) (h : id ≤ 4096) : (id4 id).map bv = [.int .u8 ((id : Int) / 16777216), .int .u8 ((id : Int) / 65536), .int .u8 ((id : Int) / 256), .int .u8 ((id : Int) % 256)] := by
  unfold id4 bv
  simp only [List.map_cons, List.map_nil, UInt8.toNat_ofNat', List.cons.injEq, Value.int.injEq, true_and, and_true]
  refine ⟨?_, ?_, ?_, ?_⟩ <;> omega
end Go.Proofs.YtaoegcakefodaaaGreat

namespace Go.Proofs.YtaoegcakefodaaaGreat
open Go.RowKit Go.BigFrame
theorem Tryz.info_int : (Tryz.prog.info? 3).map (fun i => (i.zero, i.size, i.bytes)) = some (some (.int .i64 0), 1, 8) := by kernel_rfl
def iv (k : Nat) : Value := .int .i64 (k : Int)
theorem allocS_fits {s : St} (n : Int) (hn : ¬ n < 0) (hf : ¬ (s.length : Int) - usedS s < n) : allocS s n = (((takeS 0 n.toNat s).1, 0), (takeS 0 n.toNat s).2) := by
  unfold allocS
  rw [if_neg hn, if_neg hf]
theorem own_only {base g : Nat} {e : TypeId} {w w' : World} {v : Value} {n : Nat} {xs : List Value} (h : w.ownsRow base e 1 v n xs) (ho : OnlyP g w w') (hg : g < base) : w'.ownsRow base e 1 v n xs :=
  h.kept (row := some g) ho (.inr (fun hh => by have := (h.lt g hh).1; omega))
theorem OnlyP.below {g : Nat} {x y z : World} (h : OnlyP g x y) (hb : Below x.heap.size y z) : OnlyP g x z :=
  ⟨hb.os.trans h.os, hb.tape.trans h.tape, hb.output.trans h.output, Nat.le_trans h.size hb.size, fun i hi hne => (hb.block i hi).trans (h.block i hi hne)⟩
theorem takeS_nil (j n : Nat) : takeS j n [] = ([], []) := by cases n <;> simp [takeS]
theorem takeS_zero (j : Nat) (s : St) : takeS j 0 s = ([], s) := by simp only [takeS]
theorem takeS_none (j n : Nat) (t : St) (h : 0 < n) : takeS j n (none :: t) = (j :: (takeS (j + 1) (n - 1) t).1, some (layP j []) :: (takeS (j + 1) (n - 1) t).2) := by
  obtain ⟨k, rfl⟩ : ∃ k, n = k + 1 := ⟨n - 1, by omega⟩
  rfl
theorem takeS_some (j n : Nat) (p : List UInt8) (t : St) (h : 0 < n) : takeS j n (some p :: t) = ((takeS (j + 1) n t).1, some p :: (takeS (j + 1) n t).2) := by
  obtain ⟨k, rfl⟩ : ∃ k, n = k + 1 := ⟨n - 1, by omega⟩
  rfl
end Go.Proofs.YtaoegcakefodaaaGreat

namespace Go.Proofs.YtaoegcakefodaaaGreat
open Go.RowKit Go.BigFrame
theorem takeS_count : ∀ (n i : Nat) (s : St), n + usedS s ≤ s.length → (takeS i n s).1.length = n
  | 0, i, s, _ => by rw [takeS_zero]; rfl
  | n + 1, i, [], h => by simp [usedS] at h
  | n + 1, i, none :: t, h => by
    rw [takeS_none _ _ _ (by omega)]
    simp only [List.length_cons, Nat.add_sub_cancel]
    rw [takeS_count n (i + 1) t (by simp [usedS] at h ⊢; omega)]
  | n + 1, i, some p :: t, h => by
    rw [takeS_some _ _ _ _ (by omega)]
    exact takeS_count (n + 1) (i + 1) t (by simp [usedS] at h ⊢; omega)
theorem takeS_has : ∀ (n i : Nat) (s : St), ∀ id ∈ (takeS i n s).1, i ≤ id ∧ ∃ p, (takeS i n s).2[id - i]? = some (some p)
  | 0, i, s, id, h => by rw [takeS_zero] at h; cases h
  | n + 1, i, [], id, h => by rw [takeS_nil] at h; cases h
  | n + 1, i, none :: t, id, h => by
    rw [takeS_none _ _ _ (by omega)] at h ⊢
    simp only [Nat.add_sub_cancel, List.mem_cons] at h ⊢
    rcases h with rfl | h
    · exact ⟨Nat.le_refl _, _, by rw [Nat.sub_self]; rfl⟩
    · obtain ⟨h1, p, hp⟩ := takeS_has n (i + 1) t id h
      exact ⟨by omega, p, by rw [show id - i = (id - (i + 1)) + 1 by omega]; exact hp⟩
  | n + 1, i, some q :: t, id, h => by
    rw [takeS_some _ _ _ _ (by omega)] at h ⊢
    obtain ⟨h1, p, hp⟩ := takeS_has (n + 1) (i + 1) t id h
    exact ⟨by omega, p, by rw [show id - i = (id - (i + 1)) + 1 by omega]; exact hp⟩
end Go.Proofs.YtaoegcakefodaaaGreat

namespace Go.Proofs.YtaoegcakefodaaaGreat
open Go.RowKit
def OwnP (base : Nat) (w : World) (v : Value) (l : List UInt8) : Prop :=
  (v = .slice none 0 0 ∧ l = []) ∨ ∃ g off cap, v = .slice (some ⟨g, off, none⟩) l.length cap ∧ base ≤ g ∧ l.length ≤ cap ∧ cap ≤ maxLen ∧ (∀ i u, (l.map bv)[i]? = some u → w.cell? ⟨g, off + i, none⟩ = some u) ∧ ∀ i, i < l.length → w.frozen? ⟨g, off + i, none⟩ = false
theorem OwnP.rd {base : Nat} {w : World} {v : Value} {l : List UInt8} (h : OwnP base w v l) : Rd w v l := by
  rcases h with ⟨rfl, rfl⟩ | ⟨g, off, cap, rfl, _, h2, h3, h4, _⟩
  · exact Rd.nil w
  · exact .inr ⟨_, cap, by rw [List.length_map], by rw [List.length_map]; exact h2, h3, fun i u hu => by rw [add_at]; exact h4 i u hu⟩
theorem OwnP.of_owns {base : Nat} {w : World} {v : Value} {l : List UInt8} (h : w.ownsRow base 5 1 v l.length (l.map bv)) : OwnP base w v l := by
  rcases h.2 with ⟨h1, h2⟩ | ⟨g, cap, cur, rfl, h2, h3, h4, h5, _⟩
  · exact .inl ⟨h1, List.length_eq_zero_iff.1 h2⟩
  · exact .inr ⟨g, 0, cap, rfl, h2, h4, h5, fun i u hu => by
      have := h.cells (g := g) rfl i u hu
      rw [add_at] at this
      exact this, fun i _ => h.frozenAt _⟩
theorem OwnP.onlyS {X : Nat → Prop} {base : Nat} {w w' : World} {v : Value} {l : List UInt8} (h : OwnP base w v l) (ho : OnlyS X w w') (hx : ∀ k, v.ownBlock = some k → ¬ X k) : OwnP base w' v l := by
  rcases h with h | ⟨g, off, cap, rfl, h1, h2, h3, h4, h5⟩
  · exact .inl h
  · refine .inr ⟨g, off, cap, rfl, h1, h2, h3, fun i u hu => ho.cell (h4 i u hu) (hx g rfl), fun i hi => ?_⟩
    have hlt := lt_of_cell (h4 i (bv (l[i]'hi)) (by rw [List.getElem?_map, List.getElem?_eq_getElem hi]; rfl))
    have := h5 i hi
    unfold World.frozen? at this ⊢
    rw [ho.block g hlt (hx g rfl)]
    exact this
end Go.Proofs.YtaoegcakefodaaaGreat

namespace Go.Proofs.YtaoegcakefodaaaGreat
def tab (k : Nat) : Nat := (feed 0#32 (bits8 (UInt8.ofNat k))).toNat
theorem tab_lt (k : Nat) : tab k < 4294967296 := (feed 0#32 (bits8 (UInt8.ofNat k))).isLt
theorem tab_zero : tab 0 = 0 := by decide +kernel
theorem tab_all : ∀ k < 128, tab (2 * k) = stN (tab k) 0 ∧ tab (2 * k + 1) = tab (2 * k) ^^^ 2168537515 := by decide +kernel
theorem top_all : ∀ n < 256, feed (BitVec.ofNat 32 (n * 16777216)) (bits8 (UInt8.ofNat n)) = 0#32 := by decide +kernel
theorem stp_low (s : BitVec 32) (h : s.toNat < 2147483648) : stp s false = BitVec.ofNat 32 (s.toNat * 2) := by
  apply BitVec.eq_of_toNat_eq
  rw [← stN_eq, BitVec.toNat_ofNat]
  unfold stN
  rw [if_pos (by rw [Nat.div_eq_of_lt h]; rfl)]
theorem feed_low (n : Nat) (k : Nat) (h : n * 2 ^ k < 4294967296) : feed (BitVec.ofNat 32 n) (List.replicate k false) = BitVec.ofNat 32 (n * 2 ^ k) := by
  induction k generalizing n with
  | zero => rw [Nat.pow_zero, Nat.mul_one]; rfl
  | succ k ih =>
    have h2 : n * 2 * 2 ^ k = n * 2 ^ (k + 1) := by rw [Nat.pow_succ, Nat.mul_assoc, Nat.mul_comm 2]
    have h3 : n * 2 ≤ n * 2 * 2 ^ k := Nat.le_mul_of_pos_right _ (Nat.two_pow_pos k)
    have hn : (BitVec.ofNat 32 n).toNat = n := by rw [BitVec.toNat_ofNat]; exact Nat.mod_eq_of_lt (by omega)
    rw [List.replicate_succ, feed_cons, stp_low _ (by rw [hn]; omega), hn, ih _ (by omega), h2]
theorem split_xor (n : Nat) : (n % 16777216) ^^^ (n / 16777216 * 16777216) = n := by
  refine Nat.eq_of_testBit_eq fun i => ?_
  rw [Nat.testBit_xor, show (16777216 : Nat) = 2 ^ 24 by rfl, Nat.testBit_mod_two_pow, Nat.mul_comm, Nat.testBit_two_pow_mul, Nat.testBit_div_two_pow]
  by_cases h : i < 24
  · rw [decide_eq_true h, decide_eq_false (by omega)]; simp
  · rw [decide_eq_false h, decide_eq_true (by omega), show i - 24 + 24 = i by omega]; simp
theorem feed_byte (s : BitVec 32) (c : UInt8) :
    (feed s (bits8 c)).toNat = (s.toNat * 256 % 4294967296) ^^^ tab (s.toNat / 16777216 ^^^ c.toNat) := by
  have hs := s.isLt
  have hh : s.toNat / 16777216 < 256 := by omega
  have e1 : s = BitVec.ofNat 32 (s.toNat % 16777216) ^^^ BitVec.ofNat 32 (s.toNat / 16777216 * 16777216) := by
    apply BitVec.eq_of_toNat_eq
    have a1 : s.toNat % 16777216 % 2 ^ 32 = s.toNat % 16777216 := Nat.mod_eq_of_lt (by omega)
    have a2 : s.toNat / 16777216 * 16777216 % 2 ^ 32 = s.toNat / 16777216 * 16777216 := Nat.mod_eq_of_lt (by omega)
    rw [BitVec.toNat_xor, BitVec.toNat_ofNat, BitVec.toNat_ofNat, a1, a2, split_xor]
  have e2 : bits8 c = List.zipWith (· ^^ ·) (List.replicate 8 false) (bits8 c) := by
    simp [bits8, List.replicate]
  have e3 : feed s (bits8 c) = feed (BitVec.ofNat 32 (s.toNat % 16777216)) (List.replicate 8 false) ^^^ feed (BitVec.ofNat 32 (s.toNat / 16777216 * 16777216)) (bits8 c) := by
    rw [← feed_xor _ _ _ _ (by rw [List.length_replicate, bits8_length]), ← e1, ← e2]
  have e4 : bits8 c = List.zipWith (· ^^ ·) (bits8 (UInt8.ofNat (s.toNat / 16777216))) (bits8 (UInt8.ofNat (s.toNat / 16777216 ^^^ c.toNat))) := by
    rw [← xor_bits]
    congr 1
    apply UInt8.toNat_inj.1
    rw [UInt8.toNat_xor, UInt8.toNat_ofNat_of_lt' (by exact hh), UInt8.toNat_ofNat_of_lt' (Nat.xor_lt_two_pow (n := 8) hh c.toNat_lt), ← Nat.xor_assoc, Nat.xor_self, Nat.zero_xor]
  have e5 : feed (BitVec.ofNat 32 (s.toNat / 16777216 * 16777216)) (bits8 c) = feed 0#32 (bits8 (UInt8.ofNat (s.toNat / 16777216 ^^^ c.toNat))) := by
    have := feed_xor (bits8 (UInt8.ofNat (s.toNat / 16777216))) (bits8 (UInt8.ofNat (s.toNat / 16777216 ^^^ c.toNat))) (BitVec.ofNat 32 (s.toNat / 16777216 * 16777216)) 0#32 rfl
    rw [← e4, top_all _ hh, BitVec.xor_zero, BitVec.zero_xor] at this
    exact this
  have a3 : s.toNat % 16777216 * 2 ^ 8 < 4294967296 := by omega
  have a4 : (BitVec.ofNat 32 (s.toNat % 16777216 * 2 ^ 8)).toNat = s.toNat * 256 % 4294967296 := by rw [BitVec.toNat_ofNat]; omega
  rw [e3, e5, feed_low _ 8 a3, BitVec.toNat_xor, a4]
  rfl
end Go.Proofs.YtaoegcakefodaaaGreat

namespace Go.Proofs.YtaoegcakefodaaaGreat
open Go.RowKit
theorem shift_any (n : Nat) (w : World) (hn : n < 4294967296) :
    Calls Tryz.prog 168 #[.int .u32 n] w fun e w' => e = .returned (.int .u32 (stN n 0)) ∧ w = w' := by
  by_cases h : n / 2147483648 = 1
  · have e : stN n 0 = (n * 2 % 4294967296) ^^^ 2168537515 := if_neg (by omega)
    have hd : (((n : Int) / 2147483648) == 1) = true := by rw [beq_iff_eq]; omega
    have hx := u32_xor (n * 2 % 4294967296) 2168537515 (by omega) (by omega)
    have HX := Lib.hid hx
    rw [e]
    clear h e hx
    go_enter Tryz.func168, Tryz.ntmps168
    go_wp2_with fail
    go_ret
    refine ⟨congrArg Ending.returned (congrArg (Value.int IntKind.u32) ?_), rfl⟩
    rw [← HX.out]
    rfl
  · have e : stN n 0 = n * 2 % 4294967296 := if_pos (by omega)
    have hd : (((n : Int) / 2147483648) == 1) = false := by rw [beq_eq_false_iff_ne]; omega
    rw [e]
    clear h e
    go_enter Tryz.func168, Tryz.ntmps168
    go_wp2_with fail
    go_ret
    exact ⟨rfl, rfl⟩
def TabTo (w : World) (g m : Nat) : Prop := ∃ cur : Array Value, w.heap[g]? = some (.cells cur 184 (0, 0)) ∧ cur.size = 256 ∧ (∀ k, k < m → cur[k]? = some (.int .u32 (tab k))) ∧ ∀ k, k < 256 → ∃ z : Int, cur[k]? = some (.int .u32 z)
theorem below_setRow {B g : Nat} {a w : World} (h : Below B a w) (hg : B ≤ g) (cs : Array Value) : Below B a (w.setRow g cs) :=
  h.trans ⟨rfl, rfl, rfl, by simp, fun k hk => setRow_other _ _ _ _ (by omega)⟩
theorem zero256 : (Tryz.prog.info? 184).map (fun i => (i.zero, i.size)) = some (some (.agg (Array.replicate 256 (.int .u32 0))), 256) := by kernel_rfl
theorem run_zero256 : ∃ Z : Array Value, (∀ w : World, (zeroValue 184).run Tryz.prog w = .ok (.agg Z) w) ∧ Z.size = 256 ∧ ∀ k, k < 256 → Z[k]? = some (.int .u32 0) := by
  refine ⟨Array.replicate 256 (.int .u32 0), fun w => ?_, by simp, fun k hk => by rw [Array.getElem?_replicate, if_pos hk]⟩
  have h := zero256
  cases hi : Tryz.prog.info? 184 with
  | none => rw [hi] at h; cases h
  | some i =>
    rw [hi] at h
    simp only [Option.map_some, Option.some.injEq, Prod.mk.injEq] at h
    simp [zeroValue, typeInfo, hi, h.1]
set_option maxRecDepth 100000 in
set_option maxHeartbeats 1000000 in
theorem ofBytes_any (w : World) :
    Calls Tryz.prog 152 #[] w fun e w' => (∃ cur : Array Value, e = .returned (.agg cur) ∧ cur.size = 256 ∧ ∀ k, k < 256 → cur[k]? = some (.int .u32 (tab k))) ∧ Ext w w' := by
  obtain ⟨Z, hZ, hZ1, hZ2⟩ := run_zero256
  have HZ1 := Lib.hid hZ1
  have HZ2 := Lib.hid hZ2
  clear hZ1 hZ2
  go_enter Tryz.func152, Tryz.ntmps152
  go_wp2_with fail
  obtain ⟨g, hg⟩ : ∃ g, g = w.heap.size := ⟨_, rfl⟩
  have HG := Lib.hid hg
  have HS := Lib.hid (show TabTo ((w.alloc (Obj.cells Z 184)).alloc (Obj.cells Z 184)) (g + 1) 1 ∧ ((w.alloc (Obj.cells Z 184)).alloc (Obj.cells Z 184)).heap[g]? = some (.cells Z 184 (0, 0)) by
    subst hg
    exact ⟨⟨Z, heap_alloc2_new _ _ _, HZ1.out, fun k hk => by rw [HZ2.out k (by omega), show k = 0 by omega, tab_zero]; rfl, fun k hk => ⟨0, HZ2.out k hk⟩⟩, heap_alloc2_old _ _ _⟩)
  have HB := Lib.hid (show Ext w ((w.alloc (Obj.cells Z 184)).alloc (Obj.cells Z 184)) from ((Below.refl _ w).alloc (Nat.le_refl _) _).alloc (by simp) _)
  rw [← hg]
  generalize (w.alloc (Obj.cells Z 184)).alloc (Obj.cells Z 184) = W at HS HB
  clear hg hZ
  go_loopw [3] (fun i wr => ∃ k : Nat, k ≤ 128 ∧ i = .int .i64 k ∧ TabTo wr (g + 1) (max 1 (2 * k)) ∧ wr.heap[g]? = some (.cells Z 184 (0, 0)) ∧ Ext w wr) (fun i _ => 128 - (intOf i).toNat)
  case atStart => exact ⟨0, Nat.zero_le _, rfl, HS.out.1, HS.out.2, HB.out⟩
  case round =>
    obtain ⟨k, hk, rfl, htab, hres, hext⟩ := hrel
    have HE := Lib.hid hext
    have HRES := Lib.hid hres
    by_cases hlt : k < 128
    · obtain ⟨cur, hcur, hsz, hcs, hall⟩ := htab
      have hc0 : wr.cell? ⟨g + 1, k, none⟩ = some (.int .u32 (tab k)) := by rw [cell_of_row _ _ _ _ _ _ hcur]; exact hcs k (by omega)
      obtain ⟨z1, hz1⟩ := hall (2 * k) (by omega)
      obtain ⟨z2, hz2⟩ := hall (2 * k + 1) (by omega)
      have hc1 : wr.cell? ⟨g + 1, 2 * k, none⟩ = some (.int .u32 z1) := by rw [cell_of_row _ _ _ _ _ _ hcur]; exact hz1
      have hc2 : wr.cell? ⟨g + 1, 2 * k + 1, none⟩ = some (.int .u32 z2) := by rw [cell_of_row _ _ _ _ _ _ hcur]; exact hz2
      have HALL := Lib.hid hall
      have hfr : ∀ j, wr.frozen? ⟨g + 1, j, none⟩ = false := fun j => by simp [World.frozen?, hcur]
      have HC := Lib.hid hcur
      have HSZ := Lib.hid hsz
      have HCS := Lib.hid hcs
      have htl := tab_lt k
      have HT := Lib.hid (tab_all k hlt)
      obtain ⟨T, hT⟩ : ∃ T, T = tab k := ⟨_, rfl⟩
      rw [← hT] at hc0 htl HT
      clear hcur hsz hcs hext hres hT hz1 hz2 hall
      go_wp2_with fail
      refine (shift_any T _ htl).mono ?_
      rintro e w1 ⟨rfl, rfl⟩
      go_wp2_with fail
      go_roundw
      case rel =>
        have hx : bits BinOp.xor IntKind.u32 ((stN T 0 : Nat) : Int) 2168537515 = ((stN T 0 ^^^ 2168537515 : Nat) : Int) := u32_xor (stN T 0) 2168537515 (by rw [← HT.out.1]; exact tab_lt _) (by decide)
        rw [hx, ← HT.out.1, ← HT.out.2]
        have h1 := heap_setCell_same wr (g + 1) (2 * k) cur 184 (.int .u32 (tab (2 * k))) HC.out
        have h2 := heap_setCell_same _ (g + 1) (2 * k + 1) _ 184 (.int .u32 (tab (2 * k + 1))) h1
        have hz := HSZ.out
        refine ⟨k + 1, by omega, by go_num, ⟨_, h2, by simpa using hz, fun j hj => ?_, fun j hj => ?_⟩, ?_, ?_⟩
        · by_cases e2 : j = 2 * k + 1
          · rw [e2, Array.getElem?_setIfInBounds_self_of_lt (by simp; omega)]
          · by_cases e1 : j = 2 * k
            · rw [Array.getElem?_setIfInBounds_ne (by omega), e1, Array.getElem?_setIfInBounds_self_of_lt (by omega)]
            · rw [Array.getElem?_setIfInBounds_ne (by omega), Array.getElem?_setIfInBounds_ne (by omega)]
              exact HCS.out j (by omega)
        · by_cases e2 : j = 2 * k + 1
          · rw [e2, Array.getElem?_setIfInBounds_self_of_lt (by simp; omega)]; exact ⟨_, rfl⟩
          · by_cases e1 : j = 2 * k
            · rw [Array.getElem?_setIfInBounds_ne (by omega), e1, Array.getElem?_setIfInBounds_self_of_lt (by omega)]; exact ⟨_, rfl⟩
            · rw [Array.getElem?_setIfInBounds_ne (by omega), Array.getElem?_setIfInBounds_ne (by omega)]
              exact HALL.out j hj
        · rw [Below.heap_setCell _ _ _ _ (by simp), Below.heap_setCell _ _ _ _ (by simp)]
          exact HRES.out
        · have hg := HG.out
          exact (Below.setCell (Below.setCell HE.out (by simp; omega) _) (by simp; omega) _)
      case measure => simp [intOf]; omega
    · have hk2 : k = 128 := by omega
      subst hk2
      obtain ⟨cur, hcur, hsz, hcs, hall⟩ := htab
      have HCS := Lib.hid hcs
      have HSZ := Lib.hid hsz
      have hone : cur.all (·.oneCell') = true := by
        rw [Array.all_eq_true]
        intro i hi
        obtain ⟨z, hz⟩ := hall i (by omega)
        rw [Array.getElem?_eq_getElem hi] at hz
        simp only [Option.some.injEq] at hz
        rw [hz]; rfl
      have hinfo : (Tryz.prog.info? 184).map (·.size) = some cur.size := by rw [hsz]; kernel_rfl
      have hZs : Z.size = cur.size := by rw [hsz, HZ1.out]
      have HH := Lib.hid (⟨hone, hinfo, hZs⟩ : cur.all (·.oneCell') = true ∧ (Tryz.prog.info? 184).map (·.size) = some cur.size ∧ Z.size = cur.size)
      clear hcs hsz hall hone hinfo hZs hext hres
      have HCUR := Lib.hid hcur
      clear hcur
      go_wp2_with (first
        | (refine wpList_load_row rfl 184 (.tmp 1) rfl (g + 1) rfl 184 cur (0, 0) _ HCUR.out Tryz.underlying184 rfl HH.out.2.1 ?_)
        | (refine wpList_store_row rfl 184 (.tmp 0) (.tmp 23) rfl g cur rfl rfl 184 Z HRES.out HH.out.2.1 HH.out.2.2 HH.out.1 ?_))
      refine bodyPost_ret (v := .agg cur) ?_ rfl ⟨⟨cur, rfl, HSZ.out, fun k hk => HCS.out k (by omega)⟩, ?_⟩
      · exact results_cell_row (P := Tryz.prog) (fn := Tryz.f152) rfl _ _ g 184 cur (0, 0) _ rfl (setRow_heap _ _ _ _ _ _ HRES.out) Tryz.underlying184 rfl HH.out.2.1
      · have hg := HG.out
        exact below_setRow HE.out (by omega) _
def Steps (w : World) (fv : Value) : Prop := ∃ (g : Nat) (cur : Array Value), fv = .func (.func 153) #[] #[.pointer (some ⟨g, 0, none⟩)] ∧ w.heap[g]? = some (.cells cur 184 (0, 0)) ∧ cur.size = 256 ∧ ∀ k, k < 256 → cur[k]? = some (.int .u32 (tab k))
theorem oneCell_of {cur : Array Value} {f : Nat → Value} (hsz : cur.size = 256) (h : ∀ k, k < 256 → cur[k]? = some (f k)) (hf : ∀ k, (f k).oneCell' = true) : cur.all (·.oneCell') = true := by
  rw [Array.all_eq_true]
  intro i hi
  have hz := h i (by omega)
  rw [Array.getElem?_eq_getElem hi] at hz
  simp only [Option.some.injEq] at hz
  rw [hz]; exact hf i
set_option maxRecDepth 100000 in
set_option maxHeartbeats 1000000 in
theorem stepper_any (w : World) :
    Calls Tryz.prog 136 #[] w fun e w' => (∃ fv, e = .returned fv ∧ Steps w' fv) ∧ Ext w w' := by
  obtain ⟨Z, hZ, hZ1, hZ2⟩ := run_zero256
  have HZ1 := Lib.hid hZ1
  clear hZ1 hZ2
  go_enter Tryz.func136, Tryz.ntmps136
  go_wp2_with fail
  refine (ofBytes_any _).mono ?_
  rintro e w1 ⟨⟨cur, rfl, hsz, hcs⟩, hb⟩
  have hone := oneCell_of hsz hcs (fun _ => rfl)
  have hinfo : (Tryz.prog.info? 184).map (·.size) = some cur.size := by rw [hsz]; kernel_rfl
  have hZs : Z.size = cur.size := by rw [hsz, HZ1.out]
  have HH := Lib.hid (⟨hone, hinfo, hZs⟩ : cur.all (·.oneCell') = true ∧ (Tryz.prog.info? 184).map (·.size) = some cur.size ∧ Z.size = cur.size)
  have HSZ := Lib.hid hsz
  have HCS := Lib.hid hcs
  have HB := Lib.hid hb
  clear hsz hcs hb hone hinfo hZs
  go_wp2_with (refine wpList_store_row rfl 184 (.tmp 1) (.tmp 2) rfl w1.heap.size cur rfl rfl 184 Z (heap_alloc_new _ _) HH.out.2.1 HH.out.2.2 HH.out.1 ?_)
  go_ret
  exact ⟨⟨_, rfl, _, cur, rfl, setRow_heap _ _ _ _ _ _ (heap_alloc_new _ _), HSZ.out, HCS.out⟩, ext_trans HB.out (below_setRow ((Below.refl _ w1).alloc (Nat.le_refl _) _) (Nat.le_refl _) _)⟩
theorem u8_xorN (a b : Nat) (ha : a < 256) (hb : b < 256) : bits BinOp.xor IntKind.u8 (a : Int) (b : Int) = ((a ^^^ b : Nat) : Int) := by
  have h : a ^^^ b < 2 ^ 8 := Nat.xor_lt_two_pow ha hb
  have ha' : a % 2 ^ IntKind.u8.bits = a := Nat.mod_eq_of_lt ha
  have hb' : b % 2 ^ IntKind.u8.bits = b := Nat.mod_eq_of_lt hb
  simp only [bits, BitVec.ofInt_natCast, BitVec.toNat_xor, BitVec.toNat_ofNat, ha', hb']
  exact IntWalk.u8_in _ ⟨by omega, by omega⟩
set_option maxRecDepth 100000 in
set_option maxHeartbeats 1000000 in
theorem next_any (g : Nat) (cur : Array Value) (s : BitVec 32) (c : UInt8) (w : World) (hg : w.heap[g]? = some (.cells cur 184 (0, 0))) (_hsz : cur.size = 256) (hcs : ∀ k, k < 256 → cur[k]? = some (.int .u32 (tab k))) :
    Calls Tryz.prog 153 #[.int .u32 s.toNat, .int .u8 c.toNat, .pointer (some ⟨g, 0, none⟩)] w fun e w' => e = .returned (.int .u32 (feed s (bits8 c)).toNat) ∧ w = w' := by
  have hs := s.isLt
  have hc := c.toNat_lt
  have HF := Lib.hid (feed_byte s c)
  generalize (feed s (bits8 c)).toNat = F at HF ⊢
  generalize s.toNat = n at hs HF ⊢
  generalize c.toNat = m at hc HF ⊢
  have hx : bits BinOp.xor IntKind.u8 ((n : Int) / 16777216) (m : Int) = ((n / 16777216 ^^^ m : Nat) : Int) := u8_xorN (n / 16777216) m (by omega) hc
  have hi : n / 16777216 ^^^ m < 256 := Nat.xor_lt_two_pow (n := 8) (show n / 16777216 < 256 by omega) hc
  generalize n / 16777216 ^^^ m = i at HF hx hi
  have hcell : w.cell? ⟨g, i, none⟩ = some (.int .u32 (tab i)) := by rw [cell_of_row _ _ _ _ _ _ hg]; exact hcs i hi
  have HX := Lib.hid (u32_xor (n * 256 % 4294967296) (tab i) (by omega) (tab_lt i))
  have htl := tab_lt i
  generalize tab i = T at HF hcell HX htl
  clear hg _hsz hcs
  go_enter Tryz.func153, Tryz.ntmps153
  go_wp2_with fail
  go_ret
  refine ⟨congrArg Ending.returned (congrArg (Value.int IntKind.u32) ?_), rfl⟩
  rw [HF.out, ← HX.out]
  rfl
end Go.Proofs.YtaoegcakefodaaaGreat

