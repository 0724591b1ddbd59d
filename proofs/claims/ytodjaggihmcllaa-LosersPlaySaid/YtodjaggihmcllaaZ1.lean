/-
  Texts of this proof, merged: Can, Base, Only, Slices, Val, Vals, Open, Head.
-/
import Derived.OrdersHeld
import Derived.Deep.Quiet
import Derived.WalkKit
import Derived.WalkSpells
import Derived.WalkLawsBesides
import Derived.Lib.Hide
import Derived.Laws.BytesArg
import Derived.Laws.AppendOwnNone
import Derived.Laws.IdiomStrings
import Derived.BigQuiet
import Derived.Sort.Walk0
import Derived.RegionTactic
import Derived.ChangeAlike
import Derived.Lib.SmallJoins
import Derived.ProofKit
import Derived.OpenShut
import Derived.ShutString
import Derived.ChangeOld
import Derived.SliceStrings
import Derived.SizedLaws
import Derived.Test.YtodjaggihmcllaaRows
/-
  A statement that leaves its order open, walked once: operations that only read are taken as soon as they may come up; what stands between them (a call, a making of memory) comes up alone, and leaves what was there as it was. Over any program.
-/
namespace Go.Proofs.Ytodjaggihmcllaa
open Go.RowKit

/-- A world that stands to w as R says. -/
structure Later (R : World → World → Prop) (w : World) where
  val : World
  ext : R w val

/-- What is kept from a world to a later one. -/
structure Keeps (R : World → World → Prop) : Prop where
  refl : ∀ w, R w w
  trans : ∀ a b c, R a b → R b c → R a c

/-- w' has all that w has, as w has it. -/
def Ext (w w' : World) : Prop := Below w.heap.size w w'
/-- Nothing is asked. -/
def Free (_ _ : World) : Prop := True

theorem ext_trans {a b c : World} (h : Below a.heap.size a b) (k : Below b.heap.size b c) : Below a.heap.size a c := h.trans (k.mono h.size)

theorem Ext.keeps : Keeps Ext := ⟨fun _ => Below.refl _ _, fun _ _ _ => ext_trans⟩
theorem Free.keeps : Keeps Free := ⟨fun _ => trivial, fun _ _ _ _ _ => trivial⟩

instance (w : World) : Inhabited (Later Ext w) := ⟨⟨w, Below.refl _ _⟩⟩
instance (w : World) : Inhabited (Later Free w) := ⟨⟨w, trivial⟩⟩

theorem Ext.drew (w : World) : Ext w w.drew := (Below.refl _ _).drew
theorem Ext.trans {a b c : World} (h : Ext a b) (k : Ext b c) : Ext a c := Ext.keeps.trans _ _ _ h k

/-- An operation that yields a value, if it comes through at all. -/
def calmOp : Op → Bool
  | .move _ | .assign _ | .pick .. | .load .. | .build .. | .nilCheck _ | .binOp .. | .unOp .. | .convert .. | .slice .. | .fieldAddr .. | .field .. | .indexAddr .. | .index .. | .extract .. | .makeInterface .. | .typeAssert .. | .lookup .. | .sliceToArrayPointer .. => true
  | .call c => match c.callee with | .builtin .len | .builtin .cap | .builtin .min | .builtin .max => true | _ => false
  | _ => false

theorem value_of_bind {P : Program} {s : Sem Value} {w w' : World} {n : Next} (h : (do pure (Next.value (← s)) : Sem Next).run P w = .ok n w') : ∃ v, n = .value v := by
  simp only [Sem.run_bind] at h
  cases hs : s.run P w with
  | ok a w1 => rw [hs] at h; simp [Result.andThen] at h; exact ⟨a, h.1.symm⟩
  | halt x w1 => rw [hs] at h; simp [Result.andThen] at h

theorem value_of_andThen {r : Result Value} {w' : World} {n : Next} (h : (r.andThen fun a w' => Result.ok (Next.value a) w') = .ok n w') : ∃ v, n = .value v := by
  cases r with
  | ok a w1 => simp [Result.andThen] at h; exact ⟨a, h.1.symm⟩
  | halt x w1 => simp [Result.andThen] at h

theorem nilDeref_not {P : Program} {w w' : World} {n : Next} (h : (runtimePanic .nilDeref : Sem Next).run P w = .ok n w') : False := by
  unfold runtimePanic at h
  simp [goPanic, go_sem] at h

theorem calm_value {P : Program} {ρ : Operand → Value} {o : Oper} {w w' : World} {n : Next} (hc : calmOp o.op = true) (h : (execOp ρ o).run P w = .ok n w') : ∃ v, n = .value v := by
  obtain ⟨dst, op, type, pos, after, guard⟩ := o
  cases op <;> simp only [calmOp, Bool.false_eq_true] at hc <;> simp only [execOp] at h
  case move => simp at h; exact ⟨_, h.1.symm⟩
  case assign => simp at h; exact ⟨_, h.1.symm⟩
  case pick c a b =>
    simp only [Sem.run_bind] at h
    cases hs : (asBool (ρ c)).run P w with
    | ok t w1 => rw [hs] at h; simp [Result.andThen] at h; exact ⟨_, h.1.symm⟩
    | halt x w1 => rw [hs] at h; simp [Result.andThen] at h
  case nilCheck x =>
    split at h
    · exact (nilDeref_not h).elim
    · exact (nilDeref_not h).elim
    · exact (nilDeref_not h).elim
    · split at h
      · exact (nilDeref_not h).elim
      · simp only [Sem.run_bind] at h
        simp [Result.andThen] at h
        split at h
        · split at h
          · simp at h; exact ⟨_, h.1.symm⟩
          · simp [go_sem] at h
        · cases h
      · simp at h; exact ⟨_, h.1.symm⟩
    · simp at h; exact ⟨_, h.1.symm⟩
  case call c =>
    obtain ⟨callee, args, argTypes⟩ := c
    cases callee with
    | builtin b => cases b <;> simp only [Bool.false_eq_true] at hc <;> (simp only [resolve, invoke, builtin, Sem.run_bind, Sem.run_pure, Result.andThen_ok] at h; exact value_of_andThen h)
    | _ => simp at hc
  all_goals exact value_of_bind h

/-- The operations of these numbers. -/
def pickOps (ops : Array Oper) (l : List Nat) : List Oper := l.map fun i => (ops[i]?).getD default

/-- A part of a plan: operations that only read, then one that may make memory. -/
def wpSegs (P : Program) (R : World → World → Prop) (ops : Array Oper) (Q : Exit → Act → World → Prop) : List (List Oper × Option Oper) → Act → World → Prop
  | [], a, w => Q .normal a w
  | (qs, none) :: rest, a, w => wpQuiet P ops (fun w' => ∃ p : Later R w, w' = p.val) (fun a' => wpSegs P R ops Q rest a' w) qs a
  | (qs, some o) :: rest, a, w => wpQuiet P ops (fun w' => ∃ p : Later R w, w' = p.val) (fun a' => wpList P ops (Exit.then (fun a'' w'' => R w w'' ∧ wpSegs P R ops Q rest a'' w'') Q) [o] a' w) qs a

def quietOk (ops : Array Oper) : List Nat → Array Bool → Bool
  | [], _ => true
  | i :: qs, listed => (Region.ready .any ops listed).contains i && Region.free .any ops listed i && ((ops[i]?).map fun o => calmOp o.op).getD false && quietOk ops qs (listed.setIfInBounds i true)

def marked : List Nat → Array Bool → Array Bool
  | [], listed => listed
  | i :: qs, listed => marked qs (listed.setIfInBounds i true)

def segsOk (ops : Array Oper) : List (List Nat × Option Nat) → Array Bool → Bool
  | [], listed => (Region.ready .any ops listed).isEmpty
  | (qs, none) :: rest, listed => quietOk ops qs listed && segsOk ops rest (marked qs listed)
  | (qs, some i) :: rest, listed => quietOk ops qs listed && (Region.ready .any ops (marked qs listed) == [i]) && segsOk ops rest ((marked qs listed).setIfInBounds i true)

def segsCount : List (List Nat × Option Nat) → Nat
  | [] => 0
  | (qs, none) :: rest => qs.length + segsCount rest
  | (qs, some _) :: rest => qs.length + (segsCount rest + 1)

def pickSegs (ops : Array Oper) (l : List (List Nat × Option Nat)) : List (List Oper × Option Oper) := l.map fun s => (pickOps ops s.1, s.2.map fun i => (ops[i]?).getD default)

section
variable {P : Program} {ops : Array Oper} {Q : Exit → Act → World → Prop} {R : World → World → Prop}

theorem wpAnyH_weaken {S S' : World → Prop} (h : ∀ w, S w → S' w) : ∀ (fuel : Nat) (listed : Array Bool) (a : Act) (w : World), wpAnyH P .any ops Q S fuel listed a w → wpAnyH P .any ops Q S' fuel listed a w
  | 0, _, _, _, hh => hh
  | fuel + 1, _, _, _, hh => ⟨hh.1, fun i hi => wpOp_mono (fun _ _ h' => ⟨h _ h'.1, wpAnyH_weaken h fuel _ _ _ h'.2⟩) (hh.2 i hi)⟩

theorem quietSeg (hR : Keeps R) (hs : Region.noSelect ops = true) (hQ : ∀ c (a : Act) (i : Nat) (o : Oper) v w, ops[i]? = some o → Q (.panic c) (a.put o.dst v) w → Q (.panic c) a w) {K : Act → Prop} {w : World} (fuel : Nat) :
    ∀ (qs : List Nat) (listed : Array Bool) (a : Act), quietOk ops qs listed = true → wpQuiet P ops (fun w' => ∃ p : Later R w, w' = p.val) K (pickOps ops qs) a →
      (∀ a', K a' → wpAnyH P .any ops Q (R w) fuel (marked qs listed) a' w) → wpAnyH P .any ops Q (R w) (qs.length + fuel) listed a w
  | [], listed, a, _, h, hk => by
    simp only [List.length_nil, Nat.zero_add]
    exact hk a h
  | i :: qs, listed, a, hok, h, hk => by
    simp only [quietOk, Bool.and_eq_true] at hok
    obtain ⟨⟨⟨hr, hf⟩, hc⟩, hrest⟩ := hok
    cases ho : ops[i]? with
    | none => simp [ho] at hc
    | some o =>
      simp only [ho, Option.map_some, Option.getD_some] at hc
      have hp : pickOps ops (i :: qs) = o :: pickOps ops qs := by simp [pickOps, ho]
      rw [hp] at h
      simp only [wpQuiet] at h
      rw [List.length_cons, Nat.add_right_comm]
      by_cases hw : Region.wanted o (yielded ops a.tmps) = true
      · rw [if_pos hw] at h
        obtain ⟨v, hv, hnext⟩ := h
        refine wpAnyH_take (v := v) ho hs hf hr (fun c a' w' hq => hQ c _ _ _ _ w' ho hq) (.inl ⟨hw, fun w' hw' => ?_⟩) (hR.refl _) (quietSeg hR hs hQ fuel qs _ _ hrest hnext hk)
        have hq := hv w' ⟨⟨w', hw'⟩, rfl⟩
        unfold Oper.quietAt at hq
        generalize hrun : (execOp a.eval o).run P w' = r at hq
        cases r with
        | ok n w1 =>
          obtain ⟨u, rfl⟩ := calm_value hc hrun
          simp only [Oper.quietUpon] at hq
          rw [hq.1, hq.2]
        | halt x w1 => simp only [Oper.quietUpon] at hq
      · rw [if_neg hw] at h
        exact wpAnyH_take (v := undef) ho hs hf hr (fun c a' w' hq => hQ c _ _ _ _ w' ho hq) (.inr ⟨by simpa using hw, rfl⟩) (hR.refl _) (quietSeg hR hs hQ fuel qs _ _ hrest h hk)

theorem wpOp_of_list {i : Nat} {o : Oper} {K : Act → World → Prop} {a : Act} {w : World} (ho : ops[i]? = some o) (h : wpList P ops (Exit.then K Q) [o] a w) : wpOp P ops Q i K a w := by
  unfold wpOp
  simp only [ho]
  simp only [wpList] at h
  split
  · rename_i hw
    rw [if_pos hw] at h
    rcases h with h | ⟨h1, h2⟩
    · refine .inl ?_
      unfold Oper.wp at *
      generalize (execOp a.eval o).run P w = r at *
      cases r with
      | ok n w' =>
        cases n <;> simp only [Oper.upon] at h ⊢ <;> first
          | exact h
          | exact Calls.mono h (fun e w'' he => by cases e <;> exact he)
          | exact Rows.mono h (fun _ _ he => he)
      | halt x w' => cases x <;> simp only [Oper.upon] at h ⊢ <;> exact h
    · exact .inr ⟨h1, h2⟩
  · rename_i hw
    rw [if_neg hw] at h
    exact h

theorem segs_sound (hR : Keeps R) (hs : Region.noSelect ops = true) (hQ : ∀ c (a : Act) (i : Nat) (o : Oper) v w, ops[i]? = some o → Q (.panic c) (a.put o.dst v) w → Q (.panic c) a w) :
    ∀ (segs : List (List Nat × Option Nat)) (listed : Array Bool) (a : Act) (w : World) (fuel : Nat), segsOk ops segs listed = true → wpSegs P R ops Q (pickSegs ops segs) a w →
      wpAnyH P .any ops Q (R w) (segsCount segs + fuel) listed a w
  | [], listed, a, w, fuel, hok, h => wpAnyH_done (by simpa [segsOk] using hok) h _
  | (qs, none) :: rest, listed, a, w, fuel, hok, h => by
    simp only [segsOk, Bool.and_eq_true] at hok
    rw [segsCount, Nat.add_assoc]
    exact quietSeg hR hs hQ _ qs listed a hok.1 h fun a' h' => segs_sound hR hs hQ rest _ _ _ fuel hok.2 h'
  | (qs, some i) :: rest, listed, a, w, fuel, hok, h => by
    simp only [segsOk, Bool.and_eq_true, beq_iff_eq] at hok
    obtain ⟨⟨h1, h2⟩, h3⟩ := hok
    have hi : ∃ o, ops[i]? = some o := by
      have : i ∈ Region.ready .any ops (marked qs listed) := by rw [h2]; simp
      obtain ⟨_, o, ho, _⟩ := mem_ready.1 this
      exact ⟨o, ho⟩
    obtain ⟨o, ho⟩ := hi
    have hp : pickSegs ops ((qs, some i) :: rest) = (pickOps ops qs, some o) :: pickSegs ops rest := by simp [pickSegs, ho]
    rw [hp] at h
    rw [segsCount, Nat.add_assoc, Nat.add_right_comm]
    refine quietSeg hR hs hQ _ qs listed a h1 h fun a' h' => wpAnyH_all h2 (by simp) fun j hj => ?_
    obtain rfl : j = i := by simpa using hj
    refine wpOp_mono (fun a'' w'' h'' => ⟨h''.1, ?_⟩) (wpOp_of_list ho h')
    exact wpAnyH_weaken (fun w3 h3' => hR.trans _ _ _ h''.1 h3') _ _ _ _ (segs_sound hR hs hQ rest _ _ _ fuel h3 h''.2)

/-- A region that draws its order, by a plan: R says what each call (and each making of memory) keeps. -/
theorem wp_region_segs {id : Nat} {a : Act} {w : World} {l : List Oper} (R : World → World → Prop) (hR : Keeps R) (segs : List (List Nat × Option Nat)) (hm : P.follows .mixedOrders = true)
    (hok : (Region.noSelect l.toArray && segsOk l.toArray segs (Array.replicate l.length false) && (segsCount segs == l.length)) = true)
    {Q : Exit → Act → World → Prop} (hQ : ∀ c (a a' : Act) w, a.defers = a'.defers → Q (.panic c) a w → Q (.panic c) a' w)
    (h : wpSegs P R l.toArray Q (pickSegs l.toArray segs) a w.drew) : (Code.region id l.toArray true).wp P Q a w := by
  simp only [Bool.and_eq_true, beq_iff_eq] at hok
  have := segs_sound (P := P) hR hok.1.1 (fun c a i o v w _ hq => hQ c _ a w (by cases o.dst <;> rfl) hq) segs (Array.replicate l.length false) a w.drew 0 hok.1.2 h
  rw [hok.2, Nat.add_zero] at this
  refine wp_region_held (S := R w.drew) hm ?_
  simpa using this

theorem wpSegs_nil {a : Act} {w : World} (h : Q .normal a w) : wpSegs P R ops Q [] a w := h
theorem wpSegs_none {qs : List Oper} {rest : List (List Oper × Option Oper)} {a : Act} {w : World}
    (h : wpQuiet P ops (fun w' => ∃ p : Later R w, w' = p.val) (fun a' => wpSegs P R ops Q rest a' w) qs a) : wpSegs P R ops Q ((qs, none) :: rest) a w := h
theorem wpSegs_some {qs : List Oper} {o : Oper} {rest : List (List Oper × Option Oper)} {a : Act} {w : World}
    (h : ∀ K : Act → World → Prop, (∀ a w, wpSegs P R ops Q rest a w → K a w) → wpQuiet P ops (fun w' => ∃ p : Later R w, w' = p.val) (fun a' => wpList P ops (Exit.then (fun a'' w'' => R w w'' ∧ K a'' w'') Q) [o] a' w) qs a) : wpSegs P R ops Q ((qs, some o) :: rest) a w :=
  h _ fun _ _ hh => hh

end

end Go.Proofs.Ytodjaggihmcllaa

/-
  Words on slices of bytes and of numbers, as values of the model, that hold over any program: what a slice value reads as, and that it goes on reading so while old blocks stay as they are.
-/
namespace Go.Proofs.Ytodjaggihmcllaa
open Go.RowKit

/-- A byte as a value. -/
def bv (c : UInt8) : Value := .int .u8 (c.toNat : Int)

/-- The slice value v (nil, or leading to cells) has these values as its elements (cells of one value each). -/
def RdV (w : World) (v : Value) (xs : List Value) : Prop :=
  (v = .slice none 0 0 ∧ xs = []) ∨
  ∃ x cap, v = .slice (some x) xs.length cap ∧ xs.length ≤ cap ∧ cap ≤ maxLen ∧ ∀ i u, xs[i]? = some u → w.cell? (x.add i) = some u

/-- The slice value v reads as these bytes. -/
def Rd (w : World) (v : Value) (l : List UInt8) : Prop := RdV w v (l.map bv)

theorem lt_of_cell {w : World} {a : Addr} {u : Value} (h : w.cell? a = some u) : a.block < w.heap.size := World.block_lt_of_cell? w a h

theorem RdV.mono {w w' : World} {v : Value} {xs : List Value} (h : RdV w v xs) (hb : Below w.heap.size w w') : RdV w' v xs := by
  rcases h with h | ⟨x, cap, h1, h2, h3, h4⟩
  · exact .inl h
  · refine .inr ⟨x, cap, h1, h2, h3, fun i u hu => ?_⟩
    have hc := h4 i u hu
    exact (hb.cell (lt_of_cell hc)).trans hc

theorem Rd.mono {w w' : World} {v : Value} {l : List UInt8} (h : Rd w v l) (hb : Below w.heap.size w w') : Rd w' v l := RdV.mono h hb

theorem RdV.nil (w : World) : RdV w (.slice none 0 0) [] := .inl ⟨rfl, rfl⟩
theorem Rd.nil (w : World) : Rd w (.slice none 0 0) [] := .inl ⟨rfl, rfl⟩

theorem add_zero (x : Addr) : x.add 0 = x := by unfold Addr.add; simp

/-- Where there is a cell the address is plain. -/
theorem plain_of {w : World} {x : Addr} {u : Value} (h : w.cell? x = some u) : ∃ b off, x = ⟨b, off, none⟩ ∧ b < w.heap.size := by
  obtain ⟨b, off, spot⟩ := x
  have hspot : spot = none := World.cell?_spot h
  subst hspot
  exact ⟨b, off, rfl, lt_of_cell h⟩

theorem add_at (b off i : Nat) : (⟨b, off, none⟩ : Addr).add i = ⟨b, off + i, none⟩ := by unfold Addr.add; split <;> simp_all

theorem RdV.of_owns {w : World} {base : Nat} {e : TypeId} {v : Value} {n : Nat} {xs : List Value} (h : w.ownsRow base e 1 v n xs) : RdV w v xs := by
  have hl : xs.length = n := by simpa using h.1
  have hc := fun g hg => h.cells (g := g) hg
  rcases h.2 with ⟨rfl, rfl⟩ | ⟨g, cap, cur, rfl, h1, h2, h3, h4, h5, h6⟩
  · have : xs = [] := List.length_eq_zero_iff.1 hl
    subst this
    exact RdV.nil w
  · exact .inr ⟨_, cap, by rw [hl], by omega, h4, fun i u hu => hc g rfl i u hu⟩

theorem RdV.takes {w : World} {x : Addr} {cap : Nat} {xs : List Value} (h2 : xs.length ≤ cap) (h3 : cap ≤ maxLen) (h4 : ∀ i u, xs[i]? = some u → w.cell? (x.add i) = some u) (n m : Nat) (hn : m = min n xs.length) : RdV w (.slice (some x) m cap) (xs.take n) := by
  subst hn
  refine .inr ⟨x, cap, by rw [List.length_take], by rw [List.length_take]; omega, h3, fun i u hu => h4 i u ?_⟩
  rw [List.getElem?_take] at hu
  split at hu
  · exact hu
  · cases hu

theorem Rd.shape {w : World} {v : Value} {l : List UInt8} (h : Rd w v l) : ∃ a cap, v = .slice a l.length cap ∧ l.length ≤ cap ∧ cap ≤ maxLen := by
  rcases h with ⟨rfl, h1⟩ | ⟨x, cap, rfl, h2, h3, _⟩
  · have : l = [] := by simpa using h1
    subst this
    exact ⟨none, 0, rfl, Nat.le_refl _, by simp [maxLen]⟩
  · rw [List.length_map] at *
    exact ⟨_, cap, rfl, h2, h3⟩
theorem add_block (x : Addr) (n : Nat) : (x.add n).block = x.block := by unfold Addr.add; split <;> rfl

theorem bv_oneCell (l : List UInt8) : ∀ u ∈ l.map bv, u.oneCell' = true := by
  intro u hu
  obtain ⟨c, _, rfl⟩ := List.mem_map.1 hu
  rfl

theorem strOfNums_bv (l : List UInt8) : strOfNums (l.map fun c => (c.toNat : Int)) = ⟨l.toArray⟩ := by
  have h : (l.map fun c => (c.toNat : Int)).map (fun n => UInt8.ofNat n.toNat) = l := by
    rw [List.map_map]
    conv => rhs; rw [← List.map_id l]
    apply List.map_congr_left
    intro c _
    simp
  unfold strOfNums
  rw [h]

/-- string(b). -/
theorem Rd.string {P : Program} {w : World} {v : Value} {l : List UInt8} (h : Rd w v l) (src dst e : TypeId) (hs : P.underlying src = some (.slice e)) (he : P.underlying e = some (.int .u8)) (hd : P.underlying dst = some .string) :
    (convert src dst v).run P w = .ok (.string ⟨l.toArray⟩) w := by
  rcases h with ⟨rfl, h1⟩ | ⟨x, cap, rfl, h2, h3, h4⟩
  · have : l = [] := by simpa using h1
    subst this
    rw [run_convert_bytes_nil (P := P) w src e hs he _ _ dst hd]; rfl
  · have hl : (loadCells x (l.map bv).length).run P w = .ok (((l.map fun c => (c.toNat : Int)).map (Value.int .u8)).toArray) w := by
      have := run_loadCells_list (P := P) w x (l.map bv) h4
      rw [this]
      simp [bv]
    rw [run_convert_bytes_string w src dst e _ _ _ hs he hd, run_bytesToString w x _ cap _ hl, foldl_push_bytes]
    have := strOfNums_bv l
    unfold strOfNums at this
    simp only [ByteArray.mk.injEq] at this
    rw [this]
    simp [ByteArray.empty, ByteArray.emptyWithCapacity]
    rfl

theorem u64_or (a b : Nat) (ha : a < 18446744073709551616) (hb : b < 18446744073709551616) : bits BinOp.or IntKind.u64 (a : Int) (b : Int) = ((a ||| b : Nat) : Int) :=
  (bits_nat .u64 64 (by decide) (fun n h0 h1 => IntWalk.u64_in n ⟨h0, by omega⟩) a b ha hb).2
theorem u64_and (a b : Nat) (ha : a < 18446744073709551616) (hb : b < 18446744073709551616) : bits BinOp.and IntKind.u64 (a : Int) (b : Int) = ((a &&& b : Nat) : Int) :=
  (bits_nat .u64 64 (by decide) (fun n h0 h1 => IntWalk.u64_in n ⟨h0, by omega⟩) a b ha hb).1
/-- x times a power of two, or-ed with what is below that power: the sum. -/
theorem nat_or_low (X C i : Nat) (hC : C < 2 ^ i) : (X * 2 ^ i ||| C) = X * 2 ^ i + C := by
  have := Nat.shiftLeft_add_eq_or_of_lt hC X
  rw [Nat.shiftLeft_eq] at this
  exact this.symm
theorem cast_mul_pow (X i : Nat) : ((X : Int) * 2 ^ i) = ((X * 2 ^ i : Nat) : Int) := by rw [Int.natCast_mul, Int.natCast_pow]; rfl
theorem u64_or_low (x c : Int) (i : Nat) (h0 : 0 ≤ x) (hc0 : 0 ≤ c) (hc : c < 2 ^ i) (h1 : x * 2 ^ i + c < 18446744073709551616) : bits BinOp.or IntKind.u64 (x * 2 ^ i) c = x * 2 ^ i + c := by
  obtain ⟨X, rfl⟩ := Int.eq_ofNat_of_zero_le h0
  obtain ⟨C, rfl⟩ := Int.eq_ofNat_of_zero_le hc0
  have hC : C < 2 ^ i := by exact_mod_cast hc
  rw [cast_mul_pow] at h1 ⊢
  rw [u64_or _ _ (by omega) (by omega), nat_or_low X C i hC, Int.natCast_add]

/-- append of a slice (nil or not) to one of the call's own: cells of one value each. -/
theorem wpList_append_rd {P : Program} {w : World} {ops : Array Oper} {rest : List Oper} {o : Oper} {a : Act} {Q : Exit → Act → World → Prop} (hgd : o.guard = none) (s x : Operand) (t : TypeId)
    (ho : o.op = .call { callee := .builtin .append, args := #[s, x], argTypes := #[t, t] })
    (base : Nat) (e : TypeId) (i : TypeInfo) (z : Value) (bytes : Nat) (ht : P.underlying t = some (.slice e)) (hi : P.info? e = some i) (hz : i.zero = some z)
    (hsize : i.size = 1) (hby : i.bytes = bytes) (hzs : z.cells.size = 1)
    (v : Value) (n : Nat) (xs : List Value) (hs : a.eval s = v) (hown : w.ownsRow base e 1 v n xs)
    (u : Value) (news : List Value) (hx : a.eval x = u) (hu : RdV w u news) (h1 : ∀ u ∈ news, u.oneCell' = true)
    (h63 : n + news.length ≤ maxLen) (hbytes : (n + news.length) * bytes ≤ 140737488355328) (hbase : base ≤ w.heap.size)
    (h : ∀ v' w', w'.ownsRow base e 1 v' (n + news.length) (xs ++ news) → w.grownBy w' v.ownBlock → wpList P ops Q rest (a.put o.dst v') w') : wpList P ops Q (o :: rest) a w := by
  rcases hu with ⟨rfl, rfl⟩ | ⟨ad, cap, rfl, h2, h3, h4⟩
  · refine wpList_append_own_none hgd s x t ho base e i 1 ht hi v n xs hs hown hx ?_
    refine h v w ?_ ⟨rfl, rfl, rfl, Nat.le_refl _, fun _ _ _ => rfl⟩
    simpa using hown
  · exact wpList_append_own w hgd s x t ho base e i z 1 bytes ht hi hz hsize hby hzs (by decide) v n xs hs hown ad news.length cap news hx (by rw [Nat.mul_one]) h4 h1 h63 hbytes hbase fun v' w' a b _ => h v' w' a b

/-- []byte(s): a new row that reads as the string's bytes. -/
theorem bytes_of {P : Program} (w : World) (src dst e : TypeId) (s : ByteArray) (hs : P.underlying src = some .string) (hd : P.underlying dst = some (.slice e)) (he : P.underlying e = some (.int .u8)) (hm : s.size ≤ maxLen) :
    ∃ u w', (convert src dst (.string s)).run P w = .ok u w' ∧ Rd w' u s.data.toList ∧ Below w.heap.size w w' := by
  refine ⟨_, _, run_bytes_of_string w src dst e s hs hd he, ?_, ?_⟩
  · have hl : s.data.toList.length = s.size := Array.length_toList
    refine .inr ⟨⟨w.heap.size, 0, none⟩, grownCap w s.size 0 e, by rw [List.length_map, hl], by rw [List.length_map, hl]; exact grownCap_ge w _ _ _, grownCap_le_maxLen w _ _ _ hm, fun i u hu => ?_⟩
    rw [add_at, Nat.zero_add]
    rw [List.getElem?_map] at hu
    obtain ⟨c, hc, rfl⟩ := Option.map_eq_some_iff.1 hu
    have hi : i < s.data.size := by
      have := (List.getElem?_eq_some_iff.1 hc).1
      simpa using this
    show ((w.drew.alloc _).cell? ⟨w.drew.heap.size, i, none⟩) = _
    unfold World.cell?
    rw [heap_alloc_new]
    simp only [Option.isSome_none, Bool.false_eq_true, if_false, bytesRow]
    rw [Array.getElem?_append_left (by simpa using hi), Array.getElem?_map]
    have : s.data[i]? = some c := by rw [← Array.getElem?_toList]; exact hc
    rw [this]
    rfl
  · exact ((Below.refl _ w).drew).alloc (Nat.le_refl _) _

end Go.Proofs.Ytodjaggihmcllaa

/-
  What changes one block of what was there, or some; new rows. Over any program.
-/
namespace Go.Proofs.Ytodjaggihmcllaa
open Go.RowKit

theorem row_new (w : World) (xs : List Value) (t : TypeId) : ∀ j u, xs[j]? = some u → (w.alloc (.cells xs.toArray t)).cell? ((⟨w.heap.size, 0, none⟩ : Addr).add j) = some u := by
  intro j u hj
  rw [add_at, Nat.zero_add]
  unfold World.cell?
  rw [heap_alloc_new]
  simpa using hj
theorem ext_new (w : World) (o : Obj) : Ext w (w.alloc o) := (Below.refl _ w).alloc (Nat.le_refl _) _

/-- Only block g of what was there has changed. -/
def OnlyP (g : Nat) (w w' : World) : Prop := w.grownBy w' (some g)
theorem OnlyP.refl (g : Nat) (w : World) : OnlyP g w w := ⟨rfl, rfl, rfl, Nat.le_refl _, fun _ _ _ => rfl⟩
theorem OnlyP.trans {g : Nat} {x y z : World} (h : OnlyP g x y) (k : OnlyP g y z) : OnlyP g x z :=
  ⟨k.os.trans h.os, k.tape.trans h.tape, k.output.trans h.output, Nat.le_trans h.size k.size, fun i hi hne => (k.block i (Nat.lt_of_lt_of_le hi h.size) hne).trans (h.block i hi hne)⟩
theorem OnlyP.keeps (g : Nat) : Keeps (OnlyP g) := ⟨OnlyP.refl g, fun _ _ _ h k => OnlyP.trans h k⟩
instance (g : Nat) (w : World) : Inhabited (Later (OnlyP g) w) := ⟨⟨w, OnlyP.refl _ _⟩⟩
theorem OnlyP.of_ext {g : Nat} {w w' : World} (h : Ext w w') : OnlyP g w w' := ⟨h.os, h.tape, h.output, h.size, fun k hk _ => h.block k hk⟩
theorem OnlyP.set (g i : Nat) (w : World) (u : Value) : OnlyP g w (w.setCell ⟨g, i, none⟩ u) := by
  refine ⟨rfl, rfl, rfl, by simp [World.setCell], fun k _ hk => ?_⟩
  rw [Below.heap_setCell _ _ _ _ (fun e => hk (by rw [e]))]

theorem cell_set_other {w : World} {g i j : Nat} {b : Nat} {u : Value} (h : b ≠ g ∨ j ≠ i) : (w.setCell ⟨g, i, none⟩ u).cell? ⟨b, j, none⟩ = w.cell? ⟨b, j, none⟩ := by
  rw [World.cell?_setCell_other]
  intro e
  simp only [Addr.mk.injEq, and_true] at e
  rcases h with h | h
  · exact h e.1.symm
  · exact h e.2.symm

/-- Only blocks of the set have changed, of what was there. -/
structure OnlyS (X : Nat → Prop) (w w' : World) : Prop where
  os : w'.os = w.os
  tape : w'.tape = w.tape
  output : w'.output = w.output
  size : w.heap.size ≤ w'.heap.size
  block : ∀ b, b < w.heap.size → ¬ X b → w'.heap[b]? = w.heap[b]?

theorem OnlyS.refl (X : Nat → Prop) (w : World) : OnlyS X w w := ⟨rfl, rfl, rfl, Nat.le_refl _, fun _ _ _ => rfl⟩
theorem OnlyS.of_ext {X : Nat → Prop} {w w' : World} (h : Ext w w') : OnlyS X w w' := ⟨h.os, h.tape, h.output, h.size, fun b hb _ => h.block b hb⟩
theorem OnlyS.of_onlyP {X : Nat → Prop} {g : Nat} {w w' : World} (h : OnlyP g w w') (hg : X g) : OnlyS X w w' :=
  ⟨h.os, h.tape, h.output, h.size, fun b hb hx => h.block b hb (fun e => hx (by have : b = g := (by simpa using e); rw [this]; exact hg))⟩
theorem OnlyS.mono {X Y : Nat → Prop} {w w' : World} (h : OnlyS X w w') (hxy : ∀ b, b < w.heap.size → X b → Y b) : OnlyS Y w w' := ⟨h.os, h.tape, h.output, h.size, fun b hb hy => h.block b hb (fun hx => hy (hxy b hb hx))⟩
/-- One step behind the other; the second one's set may have new blocks. -/
theorem OnlyS.trans {X Y : Nat → Prop} {a b c : World} (h : OnlyS X a b) (k : OnlyS Y b c) (hy : ∀ i, i < a.heap.size → Y i → X i) : OnlyS X a c :=
  ⟨k.os.trans h.os, k.tape.trans h.tape, k.output.trans h.output, Nat.le_trans h.size k.size, fun i hi hx => (k.block i (Nat.lt_of_lt_of_le hi h.size) (fun hyi => hx (hy i hi hyi))).trans (h.block i hi hx)⟩
theorem OnlyS.below {X : Nat → Prop} {N : Nat} {w w' : World} (h : OnlyS X w w') (hN : N ≤ w.heap.size) (hX : ∀ b, X b → N ≤ b) : Below N w w' :=
  ⟨h.os, h.tape, h.output, h.size, fun b hb => h.block b (by omega) (fun hx => by have := hX b hx; omega)⟩
theorem OnlyS.cell {X : Nat → Prop} {w w' : World} (h : OnlyS X w w') {a : Addr} {u : Value} (hc : w.cell? a = some u) (hx : ¬ X a.block) : w'.cell? a = some u := by
  have hlt := lt_of_cell hc
  rw [← hc]
  exact World.cell?_of_block (h.block _ hlt hx)
theorem RdV.onlyS {X : Nat → Prop} {w w' : World} {v : Value} {xs : List Value} (hr : RdV w v xs) (h : OnlyS X w w') (hx : xs ≠ [] → ∀ k, v.ownBlock = some k → ¬ X k) : RdV w' v xs := by
  rcases hr with h1 | ⟨x, cap, rfl, h2, h3, h4⟩
  · exact .inl h1
  · exact .inr ⟨x, cap, rfl, h2, h3, fun i u hu => h.cell (h4 i u hu) (by rw [add_block]; exact hx (by rintro rfl; simp at hu) x.block rfl)⟩
theorem Rd.onlyS {X : Nat → Prop} {w w' : World} {v : Value} {l : List UInt8} (hr : Rd w v l) (h : OnlyS X w w') (hx : l ≠ [] → ∀ k, v.ownBlock = some k → ¬ X k) : Rd w' v l := RdV.onlyS hr h (fun hne => hx (by rintro rfl; exact hne rfl))
theorem OnlyS.of_grown {v : Value} {w w' : World} (h : w.grownBy w' v.ownBlock) : OnlyS (fun k => v.ownBlock = some k) w w' :=
  ⟨h.os, h.tape, h.output, h.size, fun b hb hx => h.block b hb (fun e => hx e.symm)⟩
theorem OnlyS.keeps (X : Nat → Prop) : Keeps (OnlyS X) := ⟨OnlyS.refl X, fun _ _ _ h k => OnlyS.trans h k fun _ _ h => h⟩
instance (X : Nat → Prop) (w : World) : Inhabited (Later (OnlyS X) w) := ⟨⟨w, OnlyS.refl _ _⟩⟩

end Go.Proofs.Ytodjaggihmcllaa

/-
  New rows of bytes: what a call hands back, what it owns, what stays as it was.
-/
namespace Go.Proofs.Ytodjaggihmcllaa
open Go.RowKit

theorem Try.info5 : (Try.prog.info? 5).map (fun i => (i.zero, i.size, i.bytes)) = some (some (.int .u8 0), 1, 1) := by kernel_rfl

/-- What a call leaves that hands back a slice of its own. -/
def Fresh (e : TypeId) (w : World) (xs : List Value) (r : Ending) (w' : World) : Prop :=
  ∃ v, r = .returned v ∧ w'.ownsRow w.heap.size e 1 v xs.length xs ∧ Below w.heap.size w w'

theorem kept_cells {w w' : World} (hg : w.grownBy w' none) {x : Addr} {xs : List Value} (h : ∀ i u, xs[i]? = some u → w.cell? (x.add i) = some u) : ∀ i u, xs[i]? = some u → w'.cell? (x.add i) = some u :=
  fun i u hu => hg.cell (h i u hu) (by simp)

/-- append([]byte{}, b...): what stands ahead of every encoding of the reference. -/
theorem empty_owned (w : World) : (w.alloc (.cells #[] 5)).ownsRow w.heap.size 5 1 (.slice (some ⟨w.heap.size, 0, none⟩) 0 0) 0 [] := World.ownsRow_made w #[] 0 (Nat.le_refl _) (by simp [maxLen]) rfl

/-- A new block of one cell is the call's own. -/
theorem one_owned (w : World) (base : Nat) (x : Value) (hb : base ≤ w.heap.size) : (w.alloc (.cells #[x] 5)).ownsRow base 5 1 (.slice (some ⟨w.heap.size, 0, none⟩) 1 1) 1 [x] :=
  ⟨rfl, .inr ⟨w.heap.size, 1, #[x], rfl, hb, heap_alloc_new w _, Nat.le_refl _, by simp [maxLen], rfl, rfl⟩⟩

/-- What reads from elsewhere goes on so while the call's own row grows. -/
theorem kept_owned {w w4 : World} {o : Obj} {v u : Value} {l : List UInt8} (hg : (w.alloc o).grownBy w4 v.ownBlock) (hd : ∀ k, u.ownBlock = some k → v.ownBlock ≠ some k) (hr : Rd w u l) : Rd w4 u l := by
  rcases hr with h | ⟨x, cap, rfl, h2, h3, h4⟩
  · exact .inl h
  · refine .inr ⟨x, cap, rfl, h2, h3, fun i y hy => ?_⟩
    have hc := h4 i y hy
    have hc' : (w.alloc o).cell? (x.add i) = some y := by
      rw [(((Below.refl _ w).alloc (Nat.le_refl _) o).cell (lt_of_cell hc))]; exact hc
    refine hg.cell hc' (fun hh => ?_)
    rw [add_block] at hh
    exact hd x.block rfl hh.symm

/-- A row of bytes of the call's own, whatever they are. -/
def OwnB (base : Nat) (w : World) (v : Value) (n : Nat) : Prop := ∃ xs, w.ownsRow base 5 1 v n xs ∧ ∀ u ∈ xs, ∃ z : Int, u = .int .u8 z

theorem OwnB.of_bytes {base : Nat} {w : World} {v : Value} {n : Nat} {l : List UInt8} (h : w.ownsRow base 5 1 v n (l.map bv)) : OwnB base w v n :=
  ⟨_, h, fun u hu => by obtain ⟨c, _, rfl⟩ := List.mem_map.1 hu; exact ⟨_, rfl⟩⟩

theorem owns_later {base : Nat} {e : TypeId} {w w' : World} {v : Value} {n : Nat} {xs : List Value} (h : w.ownsRow base e 1 v n xs) (hb : Below w.heap.size w w') : w'.ownsRow base e 1 v n xs :=
  h.kept (row := none) ⟨hb.os, hb.tape, hb.output, hb.size, fun k hk _ => hb.block k hk⟩ (by cases v.ownBlock <;> simp)

theorem OwnB.at {base g n cap i : Nat} {w : World} (h : OwnB base w (.slice (some ⟨g, 0, none⟩) n cap) n) (hi : i < n) : ∃ z : Int, w.cell? ⟨g, i, none⟩ = some (.int .u8 z) := by
  obtain ⟨xs, ho, hx⟩ := h
  have hl : xs.length = n := by simpa using ho.1
  have hc := ho.cellAt i (by omega)
  rw [List.getElem?_eq_getElem (by omega)] at hc
  obtain ⟨z, hz⟩ := hx _ (List.getElem_mem (show i < xs.length by omega))
  exact ⟨z, by rw [hc, hz]⟩

theorem OwnB.free {base g n cap : Nat} {w : World} (h : OwnB base w (.slice (some ⟨g, 0, none⟩) n cap) n) (i : Nat) : w.frozen? ⟨g, i, none⟩ = false := h.choose_spec.1.frozenAt i

theorem OwnB.put {base g n cap : Nat} {w : World} (h : OwnB base w (.slice (some ⟨g, 0, none⟩) n cap) n) (i : Nat) (z : Int) : OwnB base (w.setCell ⟨g, i, none⟩ (.int .u8 z)) (.slice (some ⟨g, 0, none⟩) n cap) n := by
  obtain ⟨xs, ho, hx⟩ := h
  refine ⟨_, (ho.stored i _).1, fun u hu => ?_⟩
  rcases List.mem_or_eq_of_mem_set hu with h | rfl
  · exact hx u h
  · exact ⟨z, rfl⟩

theorem OwnB.other {base g i n : Nat} {w : World} {v u : Value} (h : OwnB base w v n) (hd : v.ownBlock ≠ some g) (_hg : g < w.heap.size) : OwnB base (w.setCell ⟨g, i, none⟩ u) v n := by
  obtain ⟨xs, ho, hx⟩ := h
  exact ⟨xs, ho.kept (row := some g) ⟨rfl, rfl, rfl, by simp [World.setCell], fun k _ hk => Below.heap_setCell _ _ _ _ (fun e => hk (by rw [e]))⟩ (.inr hd), hx⟩

theorem OwnB.lt {base g n cap m : Nat} {w : World} (h : OwnB base w (.slice (some ⟨g, 0, none⟩) n cap) m) : base ≤ g ∧ g < w.heap.size := h.choose_spec.1.lt g rfl

theorem OwnB.base {b b' n : Nat} {w : World} {v : Value} (h : OwnB b w v n) (hb : b' ≤ b) : OwnB b' w v n := by
  obtain ⟨xs, ho, hx⟩ := h
  refine ⟨xs, ⟨ho.1, ?_⟩, hx⟩
  rcases ho.2 with h | ⟨g, cap, cur, h1, h2, h3⟩
  · exact .inl h
  · exact .inr ⟨g, cap, cur, h1, by omega, h3⟩

theorem owns_shape {base : Nat} {e : TypeId} {w : World} {v : Value} {n : Nat} {xs : List Value} (h : w.ownsRow base e 1 v n xs) (hn : 0 < n) : ∃ g cap, v = .slice (some ⟨g, 0, none⟩) n cap ∧ base ≤ g ∧ g < w.heap.size ∧ n ≤ cap ∧ cap ≤ maxLen := by
  rcases h.2 with ⟨_, h0⟩ | ⟨g, cap, cur, rfl, hb, hg, h1, h2, _⟩
  · omega
  · exact ⟨g, cap, rfl, hb, (Array.getElem?_eq_some_iff.1 hg).1, h1, h2⟩

/-- A slice as its cells, nil or not. -/
theorem RdV.cellsAt {w : World} {v : Value} {xs : List Value} (h : RdV w v xs) :
    ∃ ao cap, v = .slice ao xs.length cap ∧ xs.length ≤ cap ∧ cap ≤ maxLen ∧ ∀ i u, xs[i]? = some u → ∃ x, ao = some x ∧ w.cell? (x.add i) = some u := by
  rcases h with ⟨rfl, rfl⟩ | ⟨x, cap, rfl, h2, h3, h4⟩
  · exact ⟨none, 0, rfl, Nat.le_refl _, by simp [maxLen], fun i u hu => by simp at hu⟩
  · exact ⟨some x, cap, rfl, h2, h3, fun i u hu => ⟨x, rfl, h4 i u hu⟩⟩

/-- An operation whose guard holds is as without it. -/
theorem wpList_struck {P : Program} {ops : Array Oper} {Q : Exit → Act → World → Prop} {rest : List Oper} {o : Oper} {a : Act} {w : World} (hw : Region.wanted o (yielded ops a.tmps) = true)
    (h : wpList P ops Q ({ o with guard := none } :: rest) a w) : wpList P ops Q (o :: rest) a w := by
  unfold wpList at h ⊢
  rw [if_pos hw]
  rw [if_pos (by simp [Region.wanted])] at h
  exact h

theorem OwnB.start {base L cap k : Nat} {w : World} {a : Option Addr} (h : OwnB base w (.slice a L cap) L) (hk : k < L) : ∃ g, a = some ⟨g, 0, none⟩ := by
  obtain ⟨xs, ho, _⟩ := h
  obtain ⟨g, c, e, _⟩ := owns_shape ho (by omega)
  simp only [Value.slice.injEq] at e
  exact ⟨g, e.1⟩

theorem OwnB.later {base n : Nat} {w w' : World} {v : Value} (h : OwnB base w v n) (hb : Below w.heap.size w w') : OwnB base w' v n := by
  obtain ⟨xs, ho, hx⟩ := h
  exact ⟨xs, owns_later ho hb, hx⟩

end Go.Proofs.Ytodjaggihmcllaa

/-
  Values, their order, truths: over numbers and lists of bytes. No program.
-/
namespace Go.Proofs.Ytodjaggihmcllaa
open Go.RowKit

/-- A value. -/
structure V where
  k : Int
  n : Int
  s : List UInt8
deriving DecidableEq

def V.zero : V := ⟨0, 0, []⟩
/-- As a value of the model. -/
def V.val (v : V) : Value := .agg #[.int .u8 v.k, .int .i64 v.n, .string ⟨v.s.toArray⟩]
def V.cells (v : V) : List Value := [.int .u8 v.k, .int .i64 v.n, .string ⟨v.s.toArray⟩]
/-- What may come in. -/
structure V.fits (v : V) : Prop where
  k0 : 0 ≤ v.k
  k1 : v.k ≤ 255
  lo : -9223372036854775808 ≤ v.n
  hi : v.n ≤ 9223372036854775807

/-- Which values may be. -/
def rightV (v : V) : Bool :=
  (decide (v.k = 0) && decide (v.n = 0) && decide (v.s = [])) || (decide (v.k = 1) && (decide (v.n = 0) || decide (v.n = 1)) && decide (v.s = [])) ||
  (decide (v.k = 2) && decide (v.s = [])) || (decide (v.k = 3) && decide (v.n = 0) && decide (v.s.length ≤ 1024))

theorem rightV_iff (v : V) : rightV v = true ↔ (v.k = 0 ∧ v.n = 0 ∧ v.s = []) ∨ (v.k = 1 ∧ (v.n = 0 ∨ v.n = 1) ∧ v.s = []) ∨ (v.k = 2 ∧ v.s = []) ∨ (v.k = 3 ∧ v.n = 0 ∧ v.s.length ≤ 1024) := by
  unfold rightV
  simp only [Bool.or_eq_true, Bool.and_eq_true, decide_eq_true_eq, and_assoc, or_assoc]

def cmpN (a b : Int) : Int := if a = b then 0 else if a < b then -1 else 1
def cmpB (a b : List UInt8) : Int := if a = b then 0 else if Op.bytesLess a b = true then -1 else 1
/-- How two values stand. -/
def cmpV (a b : V) : Int := if a.k = b.k then (if a.n = b.n then cmpB a.s b.s else cmpN a.n b.n) else cmpN a.k b.k

theorem cmpN_zero {a b : Int} : cmpN a b = 0 ↔ a = b := by unfold cmpN; split <;> (try split) <;> omega
theorem cmpN_neg (a b : Int) : cmpN b a = -cmpN a b := by unfold cmpN; repeat' split <;> try omega
theorem cmpN_three (a b : Int) : cmpN a b = -1 ∨ cmpN a b = 0 ∨ cmpN a b = 1 := by
  unfold cmpN
  split
  · exact .inr (.inl rfl)
  · split
    · exact .inl rfl
    · exact .inr (.inr rfl)
theorem cmpN_lt {a b : Int} : cmpN a b = -1 ↔ a < b := by
  unfold cmpN
  by_cases h : a = b
  · subst h; simp
  · rw [if_neg h]
    by_cases h2 : a < b
    · simp [h2]
    · simp [h2]

theorem less_iff (a b : List UInt8) : Op.bytesLess a b = true ↔ a < b := by rw [bytesLess_eq]; simp
theorem less_asymm {a b : List UInt8} (h : a < b) : ¬ b < a := List.not_lt.2 (List.le_of_lt h)

theorem cmpB_zero {a b : List UInt8} : cmpB a b = 0 ↔ a = b := by
  unfold cmpB
  by_cases h : a = b
  · simp [h]
  · rw [if_neg h]
    split <;> simp [h]
theorem cmpB_three (a b : List UInt8) : cmpB a b = -1 ∨ cmpB a b = 0 ∨ cmpB a b = 1 := by
  unfold cmpB
  split
  · exact .inr (.inl rfl)
  · split
    · exact .inl rfl
    · exact .inr (.inr rfl)
theorem cmpB_lt {a b : List UInt8} : cmpB a b = -1 ↔ a < b := by
  unfold cmpB
  by_cases h : a = b
  · subst h
    simp
  · rw [if_neg h]
    by_cases hl : Op.bytesLess a b = true
    · rw [if_pos hl]
      simp [(less_iff a b).1 hl]
    · rw [if_neg hl]
      simp only [less_iff] at hl
      simp [hl]
theorem less_total (a b : List UInt8) (h : a ≠ b) : a < b ∨ b < a := by
  rcases Classical.em (a < b) with h1 | h1
  · exact .inl h1
  · right
    rcases Classical.em (b < a) with h2 | h2
    · exact h2
    · exact absurd (List.le_antisymm (List.not_lt.1 h2) (List.not_lt.1 h1)) h
theorem cmpB_neg (a b : List UInt8) : cmpB b a = -cmpB a b := by
  by_cases h : a = b
  · subst h
    have := (cmpB_zero (a := a) (b := a)).2 rfl
    omega
  · rcases less_total a b h with hl | hl
    · have h1 := cmpB_lt.2 hl
      have h2 : cmpB b a ≠ -1 := fun e => less_asymm hl (cmpB_lt.1 e)
      have h3 : cmpB b a ≠ 0 := fun e => h (cmpB_zero.1 e).symm
      have := cmpB_three b a
      omega
    · have h1 := cmpB_lt.2 hl
      have h2 : cmpB a b ≠ -1 := fun e => less_asymm hl (cmpB_lt.1 e)
      have h3 : cmpB a b ≠ 0 := fun e => h (cmpB_zero.1 e)
      have := cmpB_three a b
      omega

theorem cmpV_zero {a b : V} : cmpV a b = 0 ↔ a = b := by
  obtain ⟨k, n, s⟩ := a
  obtain ⟨k', n', s'⟩ := b
  unfold cmpV
  simp only [V.mk.injEq]
  by_cases hk : k = k'
  · rw [if_pos hk]
    by_cases hn : n = n'
    · rw [if_pos hn, cmpB_zero]
      simp [hk, hn]
    · rw [if_neg hn, cmpN_zero]
      simp [hn]
  · rw [if_neg hk, cmpN_zero]
    simp [hk]
theorem cmpV_three (a b : V) : cmpV a b = -1 ∨ cmpV a b = 0 ∨ cmpV a b = 1 := by
  unfold cmpV
  split
  · split
    · exact cmpB_three _ _
    · exact cmpN_three _ _
  · exact cmpN_three _ _
theorem cmpV_neg (a b : V) : cmpV b a = -cmpV a b := by
  unfold cmpV
  by_cases hk : a.k = b.k
  · rw [if_pos hk, if_pos hk.symm]
    by_cases hn : a.n = b.n
    · rw [if_pos hn, if_pos hn.symm, cmpB_neg]
    · rw [if_neg hn, if_neg (Ne.symm hn), cmpN_neg]
  · rw [if_neg hk, if_neg (Ne.symm hk), cmpN_neg]
theorem cmpV_trans {a b c : V} (h1 : cmpV a b = -1) (h2 : cmpV b c = -1) : cmpV a c = -1 := by
  unfold cmpV at *
  by_cases hk : a.k = b.k
  · by_cases hk2 : b.k = c.k
    · rw [if_pos hk] at h1
      rw [if_pos hk2] at h2
      rw [if_pos (hk.trans hk2)]
      by_cases hn : a.n = b.n
      · by_cases hn2 : b.n = c.n
        · rw [if_pos hn] at h1
          rw [if_pos hn2] at h2
          rw [if_pos (hn.trans hn2)]
          exact cmpB_lt.2 (List.lt_trans (cmpB_lt.1 h1) (cmpB_lt.1 h2))
        · rw [if_neg hn2] at h2
          rw [if_neg (by rw [hn]; exact hn2), hn]
          exact h2
      · rw [if_neg hn] at h1
        have l1 := cmpN_lt.1 h1
        by_cases hn2 : b.n = c.n
        · rw [if_neg (by rw [← hn2]; exact hn), ← hn2]
          exact h1
        · rw [if_neg hn2] at h2
          have l2 := cmpN_lt.1 h2
          rw [if_neg (by omega)]
          exact cmpN_lt.2 (by omega)
    · rw [if_neg hk2] at h2
      rw [if_neg (by rw [hk]; exact hk2), hk]
      exact h2
  · rw [if_neg hk] at h1
    have l1 := cmpN_lt.1 h1
    by_cases hk2 : b.k = c.k
    · rw [if_neg (by rw [← hk2]; exact hk), ← hk2]
      exact h1
    · rw [if_neg hk2] at h2
      have l2 := cmpN_lt.1 h2
      rw [if_neg (by omega)]
      exact cmpN_lt.2 (by omega)

/-- The law of the order, of any three. -/
theorem cmpV_law (a b c : V) : (0 < cmpV a b ∨ 0 < cmpV b c) ∨ (cmpV a c ≤ 0 ∧ ((cmpV a b = 0 ∧ cmpV b c = 0) ∨ cmpV a c < 0)) := by
  rcases cmpV_three a b with h | h | h
  · rcases cmpV_three b c with h2 | h2 | h2
    · have := cmpV_trans h h2
      omega
    · have e := cmpV_zero.1 h2
      subst e
      omega
    · omega
  · have e := cmpV_zero.1 h
    subst e
    have := cmpV_three a c
    omega
  · omega

/-! ### Truths -/

def tr (a : Int) : Int := if 2 < a then 1 else a
theorem tr_three {a : Int} (h : 0 ≤ a) : tr a = 0 ∨ tr a = 1 ∨ tr a = 2 := by unfold tr; split <;> omega
def andT (a b : Int) : Int := min (tr a) (tr b)
def orT (a b : Int) : Int := max (tr a) (tr b)
def notT (a : Int) : Int := 2 - tr a

/-- What is known of two values. -/
def knownT (a b : V) (is : Bool) : Int := if a.k = 0 ∨ b.k = 0 then 1 else if is = true then 2 else 0
def equalT (a b : V) : Int := knownT a b (decide (cmpV a b = 0))
def lessT (a b : V) : Int := knownT a b (decide (cmpV a b < 0))

/-! ### Rows of values in memory -/

/-- A slice reads as these values. -/
def RdVals (w : World) (u : Value) (vs : List V) : Prop :=
  ∃ ao cap, u = .slice ao vs.length cap ∧ vs.length ≤ cap ∧ cap ≤ maxLen ∧ ∀ j, (hj : j < vs.length) → ∃ g off, ao = some ⟨g, off, none⟩ ∧ ∀ i y, (vs[j].cells)[i]? = some y → w.cell? ⟨g, off + j * 3 + i, none⟩ = some y

/-- A slice reads as these rows of values. -/
def RdRows (w : World) (u : Value) (rs : List (List V)) : Prop :=
  ∃ ao cap, u = .slice ao rs.length cap ∧ rs.length ≤ cap ∧ cap ≤ maxLen ∧ ∀ j, (hj : j < rs.length) → ∃ x v, ao = some x ∧ RdVals w v rs[j] ∧ w.cell? (x.add j) = some v

theorem RdVals.mono {w w' : World} {u : Value} {vs : List V} (h : RdVals w u vs) (hb : Below w.heap.size w w') : RdVals w' u vs := by
  obtain ⟨ao, cap, h1, h2, h3, h4⟩ := h
  refine ⟨ao, cap, h1, h2, h3, fun j hj => ?_⟩
  obtain ⟨g, off, h5, h6⟩ := h4 j hj
  exact ⟨g, off, h5, fun i y hy => (hb.cell (World.block_lt_of_cell? w _ (h6 i y hy))).trans (h6 i y hy)⟩
theorem RdRows.mono {w w' : World} {u : Value} {rs : List (List V)} (h : RdRows w u rs) (hb : Below w.heap.size w w') : RdRows w' u rs := by
  obtain ⟨ao, cap, h1, h2, h3, h4⟩ := h
  refine ⟨ao, cap, h1, h2, h3, fun j hj => ?_⟩
  obtain ⟨x, v, h5, h6, h7⟩ := h4 j hj
  exact ⟨x, v, h5, h6.mono hb, (hb.cell (World.block_lt_of_cell? w _ h7)).trans h7⟩
theorem RdVals.nil (w : World) : RdVals w (.slice none 0 0) [] := ⟨none, 0, rfl, Nat.le_refl _, by simp [maxLen], fun j hj => by simp at hj⟩
theorem RdRows.nil (w : World) : RdRows w (.slice none 0 0) [] := ⟨none, 0, rfl, Nat.le_refl _, by simp [maxLen], fun j hj => by simp at hj⟩
theorem RdVals.shape {w : World} {u : Value} {vs : List V} (h : RdVals w u vs) : ∃ a cap, u = .slice a vs.length cap ∧ vs.length ≤ cap ∧ cap ≤ maxLen := by
  obtain ⟨a, cap, h1, h2, h3, _⟩ := h
  exact ⟨a, cap, h1, h2, h3⟩
theorem RdRows.shape {w : World} {u : Value} {rs : List (List V)} (h : RdRows w u rs) : ∃ a cap, u = .slice a rs.length cap ∧ rs.length ≤ cap ∧ cap ≤ maxLen := by
  obtain ⟨a, cap, h1, h2, h3, _⟩ := h
  exact ⟨a, cap, h1, h2, h3⟩

/-- What a row counts for. -/
def rowCost (vs : List V) : Int := 8 + ((vs.map fun v => 8 + v.s.length).sum : Nat)
def rowsCost (rs : List (List V)) : Int := (rs.map rowCost).sum

end Go.Proofs.Ytodjaggihmcllaa

/-
  Rows of values of one's own, the first ones of a row. Over any program.
-/
namespace Go.Proofs.Ytodjaggihmcllaa
open Go.ChangeAt Go.RowKit

theorem Try.info_val : (Try.prog.info? 38).map (fun i => (i.zero, i.size, i.bytes)) = some (some (.agg #[.int .u8 0, .int .i64 0, .string ByteArray.empty]), 3, 32) := by kernel_rfl

theorem val_oneCell (v : V) : ∀ u ∈ v.cells, u.oneCell' = true := by
  intro u hu
  simp only [V.cells, List.mem_cons, List.not_mem_nil, or_false] at hu
  rcases hu with rfl | rfl | rfl <;> rfl
theorem valCells (l : List V) (j : Nat) (hj : j < l.length) (i : Nat) (hi : i < 3) : (l.flatMap V.cells)[j * 3 + i]? = (l[j].cells)[i]? := by
  induction l generalizing j with
  | nil => simp at hj
  | cons a t ih =>
    have hc : a.cells.length = 3 := rfl
    cases j with
    | zero =>
      rw [List.flatMap_cons, Nat.zero_mul, Nat.zero_add, List.getElem?_append_left (by omega)]
      rfl
    | succ j =>
      have h := ih j (by simpa using hj)
      rw [List.flatMap_cons, List.getElem?_append_right (by omega), hc, show (j + 1) * 3 + i - 3 = j * 3 + i by omega]
      exact h
theorem valCells_length (l : List V) : (l.flatMap V.cells).length = l.length * 3 := by
  induction l with
  | nil => rfl
  | cons a t ih => rw [List.flatMap_cons, List.length_append, ih, List.length_cons]; show 3 + _ = _; omega
theorem RdVals.of_owns {E : TypeId} {base : Nat} {w : World} {v : Value} {l : List V} (h : w.ownsRow base E 3 v l.length (l.flatMap V.cells)) : RdVals w v l := by
  rcases h.2 with ⟨h1, h2⟩ | ⟨g, cap, cur, rfl, h2, h3, h4, h5, _⟩
  · obtain rfl := List.length_eq_zero_iff.1 h2
    rw [h1]
    exact RdVals.nil w
  · have hc := fun i u hu => h.cells (g := g) rfl i u hu
    refine ⟨_, cap, rfl, h4, h5, fun j hj => ⟨g, 0, rfl, fun i y hy => ?_⟩⟩
    have hi : i < 3 := (List.getElem?_eq_some_iff.1 hy).1
    have c := hc _ _ ((valCells l j hj i hi).trans hy)
    rw [add_at] at c
    rw [Nat.add_assoc]
    exact c
/-- append(l, v) of a value. -/
theorem wpList_append_val {ops : Array Oper} {rest : List Oper} {o : Oper} {a : Act} {Q : Exit → Act → World → Prop} {w : World} (hgd : o.guard = none) (s x : Operand)
    (ho : o.op = .call { callee := .builtin .append, args := #[s, x], argTypes := #[25, 25] })
    (base : Nat) (v : Value) (ps : List V) (e : V) (hs : a.eval s = v) (hown : w.ownsRow base 38 3 v ps.length (ps.flatMap V.cells))
    (hx : a.eval x = .slice (some ⟨w.heap.size, 0, none⟩) 1 1) (hp : ps.length ≤ 100000000) (hbase : base ≤ w.heap.size)
    (h : ∀ v' w', w'.ownsRow base 38 3 v' (ps ++ [e]).length ((ps ++ [e]).flatMap V.cells) → Below base w w' → OnlyS (fun k => v.ownBlock = some k) w w' → wpList Try.prog ops Q rest (a.put o.dst v') w') :
    wpList Try.prog ops Q (o :: rest) a (w.alloc (.cells e.cells.toArray 38)) := by
  obtain ⟨i0, hi, hz0, hz1, hz2⟩ := info_parts Try.info_val
  have hc := row_new w e.cells 38
  refine wpList_append_own _ hgd s x 25 ho base 38 i0 _ 3 32 Try.underlying25 hi hz0 hz1 hz2 rfl (by decide) v ps.length _ hs (hown.alloc _) ⟨w.heap.size, 0, none⟩ 1 1 e.cells hx rfl hc (val_oneCell e) (by unfold maxLen; omega) (by omega) (by simp; omega) fun v' w' h1 h2 _ => h v' w' ?_ ?_ ?_
  · rw [List.length_append, List.flatMap_append]
    simpa using h1
  · exact (((Below.refl base w).alloc hbase _).grown h2 (by simp; omega) (fun b hb => (hown.lt b hb).1))
  · exact (OnlyS.of_ext (ext_new w _)).trans (OnlyS.of_grown h2) (fun _ _ h => h)
/-- The first ones. -/
theorem RdVals.take {w : World} {ao : Option Addr} {N cap : Nat} {l : List V} (h : RdVals w (.slice ao N cap) l) (K : Nat) (hK : K ≤ N) : RdVals w (.slice ao K cap) (l.take K) := by
  obtain ⟨a', cap', h1, h2, h3, h4⟩ := h
  simp only [Value.slice.injEq] at h1
  obtain ⟨rfl, rfl, rfl⟩ := h1
  have hl : (l.take K).length = K := by rw [List.length_take]; omega
  refine ⟨ao, cap, by rw [hl], by omega, h3, fun j hj => ?_⟩
  rw [List.getElem_take]
  exact h4 j (by omega)
/-- Each value's cells, with the address in parts. -/
theorem RdVals.plain {w : World} {ao : Option Addr} {N cap : Nat} {l : List V} (h : RdVals w (.slice ao N cap) l) : N = l.length ∧ N ≤ cap ∧ cap ≤ maxLen ∧ ∀ j, (hj : j < l.length) → ∃ g off, ao = some ⟨g, off, none⟩ ∧
    w.cell? ⟨g, off + j * 3, none⟩ = some (.int .u8 l[j].k) ∧ w.cell? ⟨g, off + j * 3 + 1, none⟩ = some (.int .i64 l[j].n) ∧ w.cell? ⟨g, off + j * 3 + 2, none⟩ = some (.string ⟨l[j].s.toArray⟩) := by
  obtain ⟨a', cap', h1, h2, h3, h4⟩ := h
  simp only [Value.slice.injEq] at h1
  obtain ⟨rfl, rfl, rfl⟩ := h1
  refine ⟨rfl, h2, h3, fun j hj => ?_⟩
  obtain ⟨g, off, e, hc⟩ := h4 j hj
  exact ⟨g, off, e, hc 0 _ rfl, hc 1 _ rfl, hc 2 _ rfl⟩

end Go.Proofs.Ytodjaggihmcllaa

/-
  What an argument that came in as plain data is to a walk: a slice of numbers, of bytes, of strings, as the list that it reads as.
-/
namespace Go.Proofs.Ytodjaggihmcllaa
open Go.ChangeShapes Go.WideShapes Go.ChangeAt Go.RowKit

section
variable {H : Type} {enc : TypeId × Value → H} {P : Program} {w : World} {base : Nat} {held : Bool}

theorem rdV_row {x : Addr} {len cap : Nat} {xs : List Value} (hl : len ≤ cap) (hm : cap ≤ maxLen) (hz : xs.length = cap) (hc : ∀ i u, xs[i]? = some u → w.cell? (x.add i) = some u) : RdV w (.slice (some x) len cap) (xs.take len) := by
  refine .inr ⟨x, cap, by rw [List.length_take, hz, Nat.min_eq_left hl], by rw [List.length_take]; omega, hm, fun i u hu => hc i u ?_⟩
  rw [List.getElem?_take] at hu
  split at hu
  · exact hu
  · cases hu

/-- A slice of numbers. -/
theorem read_ints {t e : TypeId} {k : IntKind} {v : Value} {d : DataW H} {ps : List MemPlace} (ht : P.underlying t = some (.slice e)) (he : P.underlying e = some (.int k)) (hc : P.cellsOf e = 1)
    (hv : v.cells.toList = [v]) (h : DataW.Trod enc P w base (fun _ => true) held t v d ps) :
    ∃ zs : List Int, RdV w v (zs.map (Value.int k)) ∧ ∀ n ∈ zs, (Lit.int k n).wf = true := by
  obtain ⟨fuel, hf⟩ := h
  rw [hv] at hf
  rcases open_ints ht he hc hf with ⟨hcs, _⟩ | ⟨x, l, c, zs, hcs, _, hl, hm, hz, _, hcell, hwz⟩
  · obtain rfl : v = .slice none 0 0 := by simpa using hcs
    exact ⟨[], RdV.nil w, by simp⟩
  · obtain rfl : v = .slice (some x) l c := by simpa using hcs
    refine ⟨zs.take l, ?_, fun n hn => hwz n (List.mem_of_mem_take hn)⟩
    rw [List.map_take]
    refine rdV_row hl hm (by simpa using hz) fun i u hu => ?_
    rw [List.getElem?_map] at hu
    obtain ⟨n, hn, rfl⟩ := Option.map_eq_some_iff.1 hu
    have hi : i < zs.length := (List.getElem?_eq_some_iff.1 hn).1
    rw [hcell i hi, List.getD_eq_getElem?_getD, hn]
    rfl

theorem bytes_of_wf : ∀ (zs : List Int), (∀ n ∈ zs, (Lit.int .u8 n).wf = true) → zs.map (Value.int .u8) = (zs.map fun n => UInt8.ofNat n.toNat).map bv
  | [], _ => rfl
  | n :: zs, h => by
    have hn := h n (by simp)
    have hb : 0 ≤ n ∧ n ≤ 255 := bounds_u8 hn
    simp only [List.map_cons]
    rw [bytes_of_wf zs fun m hm => h m (by simp [hm])]
    congr 1
    unfold bv
    rw [UInt8.toNat_ofNat']
    congr 1
    omega

/-- A slice of bytes. -/
theorem read_bytes {t e : TypeId} {v : Value} {d : DataW H} {ps : List MemPlace} (ht : P.underlying t = some (.slice e)) (he : P.underlying e = some (.int .u8)) (hc : P.cellsOf e = 1)
    (hv : v.cells.toList = [v]) (h : DataW.Trod enc P w base (fun _ => true) held t v d ps) : ∃ l : List UInt8, Rd w v l := by
  obtain ⟨zs, hr, hw⟩ := read_ints ht he hc hv h
  rw [bytes_of_wf zs hw] at hr
  exact ⟨_, hr⟩

/-- A slice of strings. -/
theorem read_strings {t e : TypeId} {v : Value} {d : DataW H} {ps : List MemPlace} (ht : P.underlying t = some (.slice e)) (he : P.underlying e = some .string) (hc : P.cellsOf e = 1)
    (hv : v.cells.toList = [v]) (h : DataW.Trod enc P w base (fun _ => true) held t v d ps) :
    ∃ ss : List ByteArray, RdV w v (ss.map Value.string) ∧ ∀ s ∈ ss, s.size ≤ maxLen := by
  obtain ⟨fuel, hf⟩ := h
  rw [hv] at hf
  rcases open_strings ht he hc hf with ⟨hcs, _⟩ | ⟨x, l, c, ss, hcs, _, hl, hm, hz, _, hcell, hws⟩
  · obtain rfl : v = .slice none 0 0 := by simpa using hcs
    exact ⟨[], RdV.nil w, by simp⟩
  · obtain rfl : v = .slice (some x) l c := by simpa using hcs
    refine ⟨ss.take l, ?_, fun n hn => hws n (List.mem_of_mem_take hn)⟩
    rw [List.map_take]
    refine rdV_row hl hm (by simpa using hz) fun i u hu => ?_
    rw [List.getElem?_map] at hu
    obtain ⟨n, hn, rfl⟩ := Option.map_eq_some_iff.1 hu
    have hi : i < ss.length := (List.getElem?_eq_some_iff.1 hn).1
    rw [hcell i hi, List.getD_eq_getElem?_getD, hn]
    rfl

end
end Go.Proofs.Ytodjaggihmcllaa

/-
  The first ones of a slice; how many these are; bytes as a text. Over any program.
-/
namespace Go.Proofs.Ytodjaggihmcllaa
open Go.ChangeAt Go.RowKit

/-- The first ones of a slice. -/
theorem rdV_first {w : World} {ao : Option Addr} {N cap : Nat} {xs : List Value} (h : RdV w (.slice ao N cap) xs) (K : Nat) (hK : K ≤ N) : RdV w (.slice ao K cap) (xs.take K) := by
  rcases h with ⟨h1, h2⟩ | ⟨x, cap', h1, h2, h3, h4⟩
  · simp only [Value.slice.injEq] at h1
    obtain ⟨rfl, rfl, rfl⟩ := h1
    have hk : K = 0 := by omega
    subst hk
    subst h2
    exact .inl ⟨rfl, rfl⟩
  · simp only [Value.slice.injEq] at h1
    obtain ⟨rfl, rfl, rfl⟩ := h1
    exact RdV.takes h2 h3 h4 K K (by omega)
/-- How many of the first k there are: as a walk may show it. -/
theorem min_firstN (N k : Nat) : ∃ K : Nat, min (N : Int) (k : Int) = (K : Int) ∧ (if (k : Int) < (N : Int) then (k : Int) else (N : Int)) = (K : Int) ∧ K ≤ N ∧ K ≤ k ∧ K = min N k :=
  ⟨min N k, by omega, by split <;> omega, by omega, by omega, rfl⟩
theorem take_minN {α : Type} (l : List α) (k : Nat) : l.take (min l.length k) = l.take k := by
  rcases Nat.le_total l.length k with h | h
  · rw [Nat.min_eq_left h, List.take_of_length_le (Nat.le_refl _), List.take_of_length_le h]
  · rw [Nat.min_eq_right h]
/-- A row of ints that is read: where it lies. -/
theorem RdV.plain {w : World} {ao : Option Addr} {N cap : Nat} {xs : List Int} (h : RdV w (.slice ao N cap) (xs.map (Value.int .i64))) : N = xs.length ∧ N ≤ cap ∧ cap ≤ maxLen ∧ ∀ j, (hj : j < xs.length) → ∃ g off, ao = some ⟨g, off, none⟩ ∧ w.cell? ⟨g, off + j, none⟩ = some (.int .i64 xs[j]) := by
  obtain ⟨a', c', h0, h1, h2, h3⟩ := RdV.cellsAt h
  simp only [Value.slice.injEq, List.length_map] at h0 h1
  obtain ⟨rfl, rfl, rfl⟩ := h0
  refine ⟨rfl, h1, h2, fun j hj => ?_⟩
  obtain ⟨⟨g, off, sp⟩, rfl, hc⟩ := h3 j (.int .i64 xs[j]) (by rw [List.getElem?_map, List.getElem?_eq_getElem hj]; rfl)
  have hsp : sp = none := by
    obtain ⟨a0, ha0, hc0⟩ := h3 0 (.int .i64 xs[0]) (by rw [List.getElem?_map, List.getElem?_eq_getElem (by omega)]; rfl)
    obtain rfl := Option.some.inj ha0
    have h := World.cell?_spot hc0
    simpa [Addr.add] using h
  subst hsp
  rw [add_at] at hc
  exact ⟨g, off, rfl, hc⟩
/-- A row that is read: where it lies. -/
theorem RdV.plainV {w : World} {ao : Option Addr} {N cap : Nat} {xs : List Value} (h : RdV w (.slice ao N cap) xs) : N = xs.length ∧ N ≤ cap ∧ cap ≤ maxLen ∧ ∀ j u, xs[j]? = some u → ∃ g off, ao = some ⟨g, off, none⟩ ∧ w.cell? ⟨g, off + j, none⟩ = some u := by
  obtain ⟨a', c', h0, h1, h2, h3⟩ := RdV.cellsAt h
  simp only [Value.slice.injEq] at h0 h1
  obtain ⟨rfl, rfl, rfl⟩ := h0
  refine ⟨rfl, h1, h2, fun j u hj => ?_⟩
  obtain ⟨⟨g, off, sp⟩, rfl, hc⟩ := h3 j u hj
  have hsp : sp = none := by
    have hlt : 0 < xs.length := by
      have := (List.getElem?_eq_some_iff.1 hj).1
      omega
    obtain ⟨a0, ha0, hc0⟩ := h3 0 xs[0] (List.getElem?_eq_getElem hlt)
    obtain rfl := Option.some.inj ha0
    have h := World.cell?_spot hc0
    simpa [Addr.add] using h
  subst hsp
  rw [add_at] at hc
  exact ⟨g, off, rfl, hc⟩
/-- The rest of a row of one-cell values, as a fact of the walk. -/
theorem slice_restV {P : Program} {t e : TypeId} (ht : P.underlying t = some (.slice e)) {i0 : TypeInfo} (hi : P.info? e = some i0) (hz : i0.size = 1) {w : World} {ao : Option Addr} {N cap : Nat} {l : List Value} (h : RdV w (.slice ao N cap) l) (k : Nat) (hk : k ≤ N) :
    ∃ a c, RdV w (.slice a (N - k) c) (l.drop k) ∧ ∀ W, (Instr.slice t (.slice ao N cap) (some (.int .i64 (k : Int))) none none).run P W = .ok (.slice a (N - k) c) W := by
  obtain ⟨e, h2, h3, -⟩ := RdV.plainV h
  subst e
  have hlo : (k : Int) ≤ (l.length : Int) := by omega
  rcases h with ⟨h1, h4⟩ | ⟨x, cap', h1, h4, h5, h6⟩
  · simp only [Value.slice.injEq] at h1
    obtain ⟨rfl, h7, rfl⟩ := h1
    have hl0 : l = [] := List.length_eq_zero_iff.1 h7
    subst hl0
    obtain rfl : k = 0 := by simpa using hk
    refine ⟨none, 0, RdV.nil w, fun W => ?_⟩
    simp [Instr.slice, Instr.sliceBounds, Instr.sliceBound, run_underlying ht, sizeOf, typeInfo, hi, go_sem]
  · simp only [Value.slice.injEq] at h1
    obtain ⟨rfl, -, rfl⟩ := h1
    by_cases hc : cap = k
    · refine ⟨some x, cap - k, ?_, fun W => ?_⟩
      · have hd : l.drop k = [] := List.drop_eq_nil_of_le (by omega)
        rw [hd, show l.length - k = 0 by omega]
        exact .inr ⟨x, _, rfl, Nat.zero_le _, by omega, fun i u hu => by simp at hu⟩
      · subst hc
        simp [Instr.slice, Instr.sliceBounds, Instr.sliceBound, run_underlying ht, sizeOf, typeInfo, hi, go_sem, hk]
    · refine ⟨some (x.add k), cap - k, ?_, fun W => ?_⟩
      · refine .inr ⟨x.add k, cap - k, by rw [List.length_drop], by rw [List.length_drop]; omega, by omega, fun i u hu => ?_⟩
        have e2 : (x.add k).add i = x.add (k + i) := by unfold Addr.add; simp; split <;> split <;> simp_all <;> omega
        rw [e2]
        exact h6 (k + i) u (by rw [List.getElem?_drop] at hu; exact hu)
      · simp [Instr.slice, Instr.sliceBounds, Instr.sliceBound, run_underlying ht, sizeOf, typeInfo, hi, hz, go_sem, hk, hc]
theorem int_one (l : List Int) : ∀ u ∈ l.map (Value.int .i64), u.oneCell' = true := by
  intro u hu
  obtain ⟨c, _, rfl⟩ := List.mem_map.1 hu
  rfl

end Go.Proofs.Ytodjaggihmcllaa
