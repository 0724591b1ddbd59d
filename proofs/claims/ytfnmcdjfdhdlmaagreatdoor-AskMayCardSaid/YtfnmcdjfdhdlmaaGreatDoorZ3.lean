/-
  Texts of this proof, merged: Can, CellRefC, CellEq, Only, ZoneRef1, Slices, Vals, Open, Answers, AskNode.
-/
import Derived.OrdersHeld
import Derived.Deep.Quiet
import Derived.WalkKit
import Derived.BigQuiet
import Derived.Deep.CutRange
import Derived.Deep.DeepCutAuto
import Derived.Laws.AppendOwnNone
import Derived.RegionTactic
import Derived.ChangeAlike
import Derived.Lib.SmallJoins
import Derived.ProofKit
import Derived.OpenShut
import Derived.ShutString
import Derived.ChangeOld
import Derived.SliceStrings
import Derived.SizedLaws
import Derived.Test.YtfnmcdjfdhdlmaaGreatDoorProg
import Derived.Test.YtfnmcdjfdhdlmaaGreatDoorZ1
import Derived.Test.YtfnmcdjfdhdlmaaGreatDoorZ2
import Derived.Test.YtfnmcdjfdhdlmaaGreatDoorRows
/-
  A statement that leaves its order open, walked once: operations that only read are taken as soon as they may come up; what stands between them (a call, a making of memory) comes up alone, and leaves what was there as it was. Over any program.
-/
namespace Go.Proofs.YtfnmcdjfdhdlmaaGreatDoor
open Go.RowKit

/-- A world that stands to w as R says. -/
structure Later (R : World → World → Prop) (w : World) where
  val : World
  ext : R w val

/-- What is kept from a world to a later one. -/
structure Keeps (R : World → World → Prop) : Prop where
  refl : ∀ w, R w w
  trans : ∀ a b c, R a b → R b c → R a c

/-- w' has all that w has, as w has it. -/
def Ext (w w' : World) : Prop := Below w.heap.size w w'
/-- Nothing is asked. -/
def Free (_ _ : World) : Prop := True

theorem ext_trans {a b c : World} (h : Below a.heap.size a b) (k : Below b.heap.size b c) : Below a.heap.size a c := h.trans (k.mono h.size)

theorem Ext.keeps : Keeps Ext := ⟨fun _ => Below.refl _ _, fun _ _ _ => ext_trans⟩
theorem Free.keeps : Keeps Free := ⟨fun _ => trivial, fun _ _ _ _ _ => trivial⟩

instance (w : World) : Inhabited (Later Ext w) := ⟨⟨w, Below.refl _ _⟩⟩
instance (w : World) : Inhabited (Later Free w) := ⟨⟨w, trivial⟩⟩

theorem Ext.drew (w : World) : Ext w w.drew := (Below.refl _ _).drew
theorem Ext.trans {a b c : World} (h : Ext a b) (k : Ext b c) : Ext a c := Ext.keeps.trans _ _ _ h k

/-- An operation that yields a value, if it comes through at all. -/
def calmOp : Op → Bool
  | .move _ | .assign _ | .pick .. | .load .. | .build .. | .nilCheck _ | .binOp .. | .unOp .. | .convert .. | .slice .. | .fieldAddr .. | .field .. | .indexAddr .. | .index .. | .extract .. | .makeInterface .. | .typeAssert .. | .lookup .. | .sliceToArrayPointer .. => true
  | .call c => match c.callee with | .builtin .len | .builtin .cap | .builtin .min | .builtin .max => true | _ => false
  | _ => false

theorem value_of_bind {P : Program} {s : Sem Value} {w w' : World} {n : Next} (h : (do pure (Next.value (← s)) : Sem Next).run P w = .ok n w') : ∃ v, n = .value v := by
  simp only [Sem.run_bind] at h
  cases hs : s.run P w with
  | ok a w1 => rw [hs] at h; simp [Result.andThen] at h; exact ⟨a, h.1.symm⟩
  | halt x w1 => rw [hs] at h; simp [Result.andThen] at h

theorem value_of_andThen {r : Result Value} {w' : World} {n : Next} (h : (r.andThen fun a w' => Result.ok (Next.value a) w') = .ok n w') : ∃ v, n = .value v := by
  cases r with
  | ok a w1 => simp [Result.andThen] at h; exact ⟨a, h.1.symm⟩
  | halt x w1 => simp [Result.andThen] at h

theorem nilDeref_not {P : Program} {w w' : World} {n : Next} (h : (runtimePanic .nilDeref : Sem Next).run P w = .ok n w') : False := by
  unfold runtimePanic at h
  simp [goPanic, go_sem] at h

theorem calm_value {P : Program} {ρ : Operand → Value} {o : Oper} {w w' : World} {n : Next} (hc : calmOp o.op = true) (h : (execOp ρ o).run P w = .ok n w') : ∃ v, n = .value v := by
  obtain ⟨dst, op, type, pos, after, guard⟩ := o
  cases op <;> simp only [calmOp, Bool.false_eq_true] at hc <;> simp only [execOp] at h
  case move => simp at h; exact ⟨_, h.1.symm⟩
  case assign => simp at h; exact ⟨_, h.1.symm⟩
  case pick c a b =>
    simp only [Sem.run_bind] at h
    cases hs : (asBool (ρ c)).run P w with
    | ok t w1 => rw [hs] at h; simp [Result.andThen] at h; exact ⟨_, h.1.symm⟩
    | halt x w1 => rw [hs] at h; simp [Result.andThen] at h
  case nilCheck x =>
    split at h
    · exact (nilDeref_not h).elim
    · exact (nilDeref_not h).elim
    · exact (nilDeref_not h).elim
    · split at h
      · exact (nilDeref_not h).elim
      · simp only [Sem.run_bind] at h
        simp [Result.andThen] at h
        split at h
        · split at h
          · simp at h; exact ⟨_, h.1.symm⟩
          · simp [go_sem] at h
        · cases h
      · simp at h; exact ⟨_, h.1.symm⟩
    · simp at h; exact ⟨_, h.1.symm⟩
  case call c =>
    obtain ⟨callee, args, argTypes⟩ := c
    cases callee with
    | builtin b => cases b <;> simp only [Bool.false_eq_true] at hc <;> (simp only [resolve, invoke, builtin, Sem.run_bind, Sem.run_pure, Result.andThen_ok] at h; exact value_of_andThen h)
    | _ => simp at hc
  all_goals exact value_of_bind h

/-- The operations of these numbers. -/
def pickOps (ops : Array Oper) (l : List Nat) : List Oper := l.map fun i => (ops[i]?).getD default

/-- A part of a plan: operations that only read, then one that may make memory. -/
def wpSegs (P : Program) (R : World → World → Prop) (ops : Array Oper) (Q : Exit → Act → World → Prop) : List (List Oper × Option Oper) → Act → World → Prop
  | [], a, w => Q .normal a w
  | (qs, none) :: rest, a, w => wpQuiet P ops (fun w' => ∃ p : Later R w, w' = p.val) (fun a' => wpSegs P R ops Q rest a' w) qs a
  | (qs, some o) :: rest, a, w => wpQuiet P ops (fun w' => ∃ p : Later R w, w' = p.val) (fun a' => wpList P ops (Exit.then (fun a'' w'' => R w w'' ∧ wpSegs P R ops Q rest a'' w'') Q) [o] a' w) qs a

def quietOk (ops : Array Oper) : List Nat → Array Bool → Bool
  | [], _ => true
  | i :: qs, listed => (Region.ready .any ops listed).contains i && Region.free .any ops listed i && ((ops[i]?).map fun o => calmOp o.op).getD false && quietOk ops qs (listed.setIfInBounds i true)

def marked : List Nat → Array Bool → Array Bool
  | [], listed => listed
  | i :: qs, listed => marked qs (listed.setIfInBounds i true)

def segsOk (ops : Array Oper) : List (List Nat × Option Nat) → Array Bool → Bool
  | [], listed => (Region.ready .any ops listed).isEmpty
  | (qs, none) :: rest, listed => quietOk ops qs listed && segsOk ops rest (marked qs listed)
  | (qs, some i) :: rest, listed => quietOk ops qs listed && (Region.ready .any ops (marked qs listed) == [i]) && segsOk ops rest ((marked qs listed).setIfInBounds i true)

def segsCount : List (List Nat × Option Nat) → Nat
  | [] => 0
  | (qs, none) :: rest => qs.length + segsCount rest
  | (qs, some _) :: rest => qs.length + (segsCount rest + 1)

def pickSegs (ops : Array Oper) (l : List (List Nat × Option Nat)) : List (List Oper × Option Oper) := l.map fun s => (pickOps ops s.1, s.2.map fun i => (ops[i]?).getD default)

section
variable {P : Program} {ops : Array Oper} {Q : Exit → Act → World → Prop} {R : World → World → Prop}

theorem wpAnyH_weaken {S S' : World → Prop} (h : ∀ w, S w → S' w) : ∀ (fuel : Nat) (listed : Array Bool) (a : Act) (w : World), wpAnyH P .any ops Q S fuel listed a w → wpAnyH P .any ops Q S' fuel listed a w
  | 0, _, _, _, hh => hh
  | fuel + 1, _, _, _, hh => ⟨hh.1, fun i hi => wpOp_mono (fun _ _ h' => ⟨h _ h'.1, wpAnyH_weaken h fuel _ _ _ h'.2⟩) (hh.2 i hi)⟩

theorem quietSeg (hR : Keeps R) (hs : Region.noSelect ops = true) (hQ : ∀ c (a : Act) (i : Nat) (o : Oper) v w, ops[i]? = some o → Q (.panic c) (a.put o.dst v) w → Q (.panic c) a w) {K : Act → Prop} {w : World} (fuel : Nat) :
    ∀ (qs : List Nat) (listed : Array Bool) (a : Act), quietOk ops qs listed = true → wpQuiet P ops (fun w' => ∃ p : Later R w, w' = p.val) K (pickOps ops qs) a →
      (∀ a', K a' → wpAnyH P .any ops Q (R w) fuel (marked qs listed) a' w) → wpAnyH P .any ops Q (R w) (qs.length + fuel) listed a w
  | [], listed, a, _, h, hk => by
    simp only [List.length_nil, Nat.zero_add]
    exact hk a h
  | i :: qs, listed, a, hok, h, hk => by
    simp only [quietOk, Bool.and_eq_true] at hok
    obtain ⟨⟨⟨hr, hf⟩, hc⟩, hrest⟩ := hok
    cases ho : ops[i]? with
    | none => simp [ho] at hc
    | some o =>
      simp only [ho, Option.map_some, Option.getD_some] at hc
      have hp : pickOps ops (i :: qs) = o :: pickOps ops qs := by simp [pickOps, ho]
      rw [hp] at h
      simp only [wpQuiet] at h
      rw [List.length_cons, Nat.add_right_comm]
      by_cases hw : Region.wanted o (yielded ops a.tmps) = true
      · rw [if_pos hw] at h
        obtain ⟨v, hv, hnext⟩ := h
        refine wpAnyH_take (v := v) ho hs hf hr (fun c a' w' hq => hQ c _ _ _ _ w' ho hq) (.inl ⟨hw, fun w' hw' => ?_⟩) (hR.refl _) (quietSeg hR hs hQ fuel qs _ _ hrest hnext hk)
        have hq := hv w' ⟨⟨w', hw'⟩, rfl⟩
        unfold Oper.quietAt at hq
        generalize hrun : (execOp a.eval o).run P w' = r at hq
        cases r with
        | ok n w1 =>
          obtain ⟨u, rfl⟩ := calm_value hc hrun
          simp only [Oper.quietUpon] at hq
          rw [hq.1, hq.2]
        | halt x w1 => simp only [Oper.quietUpon] at hq
      · rw [if_neg hw] at h
        exact wpAnyH_take (v := undef) ho hs hf hr (fun c a' w' hq => hQ c _ _ _ _ w' ho hq) (.inr ⟨by simpa using hw, rfl⟩) (hR.refl _) (quietSeg hR hs hQ fuel qs _ _ hrest h hk)

theorem wpOp_of_list {i : Nat} {o : Oper} {K : Act → World → Prop} {a : Act} {w : World} (ho : ops[i]? = some o) (h : wpList P ops (Exit.then K Q) [o] a w) : wpOp P ops Q i K a w := by
  unfold wpOp
  simp only [ho]
  simp only [wpList] at h
  split
  · rename_i hw
    rw [if_pos hw] at h
    rcases h with h | ⟨h1, h2⟩
    · refine .inl ?_
      unfold Oper.wp at *
      generalize (execOp a.eval o).run P w = r at *
      cases r with
      | ok n w' =>
        cases n <;> simp only [Oper.upon] at h ⊢ <;> first
          | exact h
          | exact Calls.mono h (fun e w'' he => by cases e <;> exact he)
          | exact Rows.mono h (fun _ _ he => he)
      | halt x w' => cases x <;> simp only [Oper.upon] at h ⊢ <;> exact h
    · exact .inr ⟨h1, h2⟩
  · rename_i hw
    rw [if_neg hw] at h
    exact h

theorem segs_sound (hR : Keeps R) (hs : Region.noSelect ops = true) (hQ : ∀ c (a : Act) (i : Nat) (o : Oper) v w, ops[i]? = some o → Q (.panic c) (a.put o.dst v) w → Q (.panic c) a w) :
    ∀ (segs : List (List Nat × Option Nat)) (listed : Array Bool) (a : Act) (w : World) (fuel : Nat), segsOk ops segs listed = true → wpSegs P R ops Q (pickSegs ops segs) a w →
      wpAnyH P .any ops Q (R w) (segsCount segs + fuel) listed a w
  | [], listed, a, w, fuel, hok, h => wpAnyH_done (by simpa [segsOk] using hok) h _
  | (qs, none) :: rest, listed, a, w, fuel, hok, h => by
    simp only [segsOk, Bool.and_eq_true] at hok
    rw [segsCount, Nat.add_assoc]
    exact quietSeg hR hs hQ _ qs listed a hok.1 h fun a' h' => segs_sound hR hs hQ rest _ _ _ fuel hok.2 h'
  | (qs, some i) :: rest, listed, a, w, fuel, hok, h => by
    simp only [segsOk, Bool.and_eq_true, beq_iff_eq] at hok
    obtain ⟨⟨h1, h2⟩, h3⟩ := hok
    have hi : ∃ o, ops[i]? = some o := by
      have : i ∈ Region.ready .any ops (marked qs listed) := by rw [h2]; simp
      obtain ⟨_, o, ho, _⟩ := mem_ready.1 this
      exact ⟨o, ho⟩
    obtain ⟨o, ho⟩ := hi
    have hp : pickSegs ops ((qs, some i) :: rest) = (pickOps ops qs, some o) :: pickSegs ops rest := by simp [pickSegs, ho]
    rw [hp] at h
    rw [segsCount, Nat.add_assoc, Nat.add_right_comm]
    refine quietSeg hR hs hQ _ qs listed a h1 h fun a' h' => wpAnyH_all h2 (by simp) fun j hj => ?_
    obtain rfl : j = i := by simpa using hj
    refine wpOp_mono (fun a'' w'' h'' => ⟨h''.1, ?_⟩) (wpOp_of_list ho h')
    exact wpAnyH_weaken (fun w3 h3' => hR.trans _ _ _ h''.1 h3') _ _ _ _ (segs_sound hR hs hQ rest _ _ _ fuel h3 h''.2)

/-- A region that draws its order, by a plan: R says what each call (and each making of memory) keeps. -/
theorem wp_region_segs {id : Nat} {a : Act} {w : World} {l : List Oper} (R : World → World → Prop) (hR : Keeps R) (segs : List (List Nat × Option Nat)) (hm : P.follows .mixedOrders = true)
    (hok : (Region.noSelect l.toArray && segsOk l.toArray segs (Array.replicate l.length false) && (segsCount segs == l.length)) = true)
    {Q : Exit → Act → World → Prop} (hQ : ∀ c (a a' : Act) w, a.defers = a'.defers → Q (.panic c) a w → Q (.panic c) a' w)
    (h : wpSegs P R l.toArray Q (pickSegs l.toArray segs) a w.drew) : (Code.region id l.toArray true).wp P Q a w := by
  simp only [Bool.and_eq_true, beq_iff_eq] at hok
  have := segs_sound (P := P) hR hok.1.1 (fun c a i o v w _ hq => hQ c _ a w (by cases o.dst <;> rfl) hq) segs (Array.replicate l.length false) a w.drew 0 hok.1.2 h
  rw [hok.2, Nat.add_zero] at this
  refine wp_region_held (S := R w.drew) hm ?_
  simpa using this

theorem wpSegs_nil {a : Act} {w : World} (h : Q .normal a w) : wpSegs P R ops Q [] a w := h
theorem wpSegs_none {qs : List Oper} {rest : List (List Oper × Option Oper)} {a : Act} {w : World}
    (h : wpQuiet P ops (fun w' => ∃ p : Later R w, w' = p.val) (fun a' => wpSegs P R ops Q rest a' w) qs a) : wpSegs P R ops Q ((qs, none) :: rest) a w := h
theorem wpSegs_some {qs : List Oper} {o : Oper} {rest : List (List Oper × Option Oper)} {a : Act} {w : World}
    (h : ∀ K : Act → World → Prop, (∀ a w, wpSegs P R ops Q rest a w → K a w) → wpQuiet P ops (fun w' => ∃ p : Later R w, w' = p.val) (fun a' => wpList P ops (Exit.then (fun a'' w'' => R w w'' ∧ K a'' w'') Q) [o] a' w) qs a) : wpSegs P R ops Q ((qs, some o) :: rest) a w :=
  h _ fun _ _ hh => hh

end

end Go.Proofs.YtfnmcdjfdhdlmaaGreatDoor

/-
  The contracts of the document's own Right, Compare, Equal, Less.
-/
namespace Go.Proofs.YtfnmcdjfdhdlmaaGreatDoor
open Go.RowKit Go.BigFrame

theorem ext_one (w : World) (o : Obj) : Ext w (w.alloc o) := (Below.refl _ w).alloc (Nat.le_refl _) _

set_option maxRecDepth 100000 in
theorem refRight_any (v : V) (hv : v.fits) (hl : v.s.length ≤ 9223372036854775807) (w : World) :
    Calls Tryz.prog 39 #[v.val] w fun e w' => e = .returned (.bool (rightV v)) ∧ Ext w w' := by
  obtain ⟨k, n, s⟩ := v
  have hk0 : 0 ≤ k := hv.k0
  have hk1 : k ≤ 255 := hv.k1
  unfold rightV V.val
  simp only at hl ⊢
  clear hv
  by_cases h0 : k = 0
  · subst h0
    by_cases hn : n = 0
    · subst hn
      cases s with
      | nil =>
        go_enter Tryz.func39, Tryz.ntmps39
        go_wp2_with fail
        go_ret
        exact ⟨rfl, ext_one w _⟩
      | cons c t =>
        have hq : (c :: t == []) = false := rfl
        go_enter Tryz.func39, Tryz.ntmps39
        go_wp2_with fail
        go_ret
        exact ⟨rfl, ext_one w _⟩
    · have hq : (n == 0) = false := beq_eq_false_iff_ne.2 hn
      have hd : decide (n = 0) = false := decide_eq_false hn
      rw [hd]
      clear hn hd
      go_enter Tryz.func39, Tryz.ntmps39
      go_wp2_with fail
      go_ret
      exact ⟨by simp, ext_one w _⟩
  · by_cases h1 : k = 1
    · subst h1
      clear h0
      by_cases hn : n = 0
      · subst hn
        cases s with
        | nil =>
          go_enter Tryz.func39, Tryz.ntmps39
          go_wp2_with fail
          go_ret
          exact ⟨rfl, ext_one w _⟩
        | cons c t =>
          go_enter Tryz.func39, Tryz.ntmps39
          go_wp2_with fail
          go_ret
          exact ⟨rfl, ext_one w _⟩
      · by_cases hn1 : n = 1
        · subst hn1
          cases s with
          | nil =>
            go_enter Tryz.func39, Tryz.ntmps39
            go_wp2_with fail
            go_ret
            exact ⟨rfl, ext_one w _⟩
          | cons c t =>
            go_enter Tryz.func39, Tryz.ntmps39
            go_wp2_with fail
            go_ret
            exact ⟨rfl, ext_one w _⟩
        · have hq : (n == 0) = false := beq_eq_false_iff_ne.2 hn
          have hq1 : (n == 1) = false := beq_eq_false_iff_ne.2 hn1
          rw [decide_eq_false hn, decide_eq_false hn1]
          clear hn hn1
          go_enter Tryz.func39, Tryz.ntmps39
          go_wp2_with fail
          go_ret
          exact ⟨by simp, ext_one w _⟩
    · by_cases h2 : k = 2
      · subst h2
        clear h0 h1
        cases s with
        | nil =>
          go_enter Tryz.func39, Tryz.ntmps39
          go_wp2_with fail
          go_ret
          exact ⟨rfl, ext_one w _⟩
        | cons c t =>
          go_enter Tryz.func39, Tryz.ntmps39
          go_wp2_with fail
          go_ret
          exact ⟨rfl, ext_one w _⟩
      · by_cases h3 : k = 3
        · subst h3
          clear h0 h1 h2
          by_cases hn : n = 0
          · subst hn
            have HD := Lib.hid (show decide ((s.length : Int) ≤ 1024) = decide (s.length ≤ 1024) from decide_eq_decide.2 (by omega))
            go_enter Tryz.func39, Tryz.ntmps39
            go_wp2_with fail
            go_ret
            refine ⟨?_, ext_one w _⟩
            show Ending.returned (Value.bool (decide ((s.length : Int) ≤ 1024))) = _
            rw [HD.out]
            simp
          · have hq : (n == 0) = false := beq_eq_false_iff_ne.2 hn
            rw [decide_eq_false hn]
            clear hn
            go_enter Tryz.func39, Tryz.ntmps39
            go_wp2_with fail
            go_ret
            exact ⟨by simp, ext_one w _⟩
        · have q0 : (k == 0) = false := beq_eq_false_iff_ne.2 h0
          have q1 : (k == 1) = false := beq_eq_false_iff_ne.2 h1
          have q2 : (k == 2) = false := beq_eq_false_iff_ne.2 h2
          have q3 : (k == 3) = false := beq_eq_false_iff_ne.2 h3
          rw [decide_eq_false h0, decide_eq_false h1, decide_eq_false h2, decide_eq_false h3]
          clear h0 h1 h2 h3
          go_enter Tryz.func39, Tryz.ntmps39
          go_wp2_with fail
          go_ret
          exact ⟨by simp, ext_one w _⟩

theorem ext_two (w : World) (o o' : Obj) : Ext w ((w.alloc o).alloc o') := ((Below.refl _ w).alloc (Nat.le_refl _) _).alloc (by simp) _

set_option maxRecDepth 100000 in
theorem refCompare_any (a b : V) (ha : a.fits) (hb : b.fits) (w : World) :
    Calls Tryz.prog 81 #[a.val, b.val] w fun e w' => e = .returned (.int .i64 (cmpV a b)) ∧ Ext w w' := by
  obtain ⟨k, n, s⟩ := a
  obtain ⟨k', n', s'⟩ := b
  unfold cmpV cmpN cmpB V.val
  simp only
  clear ha hb
  by_cases hk : k = k'
  · subst hk
    rw [if_pos rfl]
    by_cases hn : n = n'
    · subst hn
      rw [if_pos rfl]
      by_cases hs : s = s'
      · subst hs
        rw [if_pos rfl]
        go_enter Tryz.func81, Tryz.ntmps81
        go_wp2_with fail
        go_ret
        exact ⟨rfl, ext_two w _ _⟩
      · have q : (s == s') = false := beq_eq_false_iff_ne.2 hs
        rw [if_neg hs]
        clear hs
        by_cases hl : Op.bytesLess s s' = true
        · rw [if_pos hl]
          go_enter Tryz.func81, Tryz.ntmps81
          go_wp2_with fail
          go_ret
          exact ⟨rfl, ext_two w _ _⟩
        · have hl' : Op.bytesLess s s' = false := by simpa using hl
          rw [if_neg hl]
          clear hl
          go_enter Tryz.func81, Tryz.ntmps81
          go_wp2_with fail
          go_ret
          exact ⟨rfl, ext_two w _ _⟩
    · have q : (n == n') = false := beq_eq_false_iff_ne.2 hn
      rw [if_neg hn]
      by_cases hl : n < n'
      · rw [if_neg hn, if_pos hl]
        clear hn
        go_enter Tryz.func81, Tryz.ntmps81
        go_wp2_with fail
        go_ret
        exact ⟨rfl, ext_two w _ _⟩
      · rw [if_neg hn, if_neg hl]
        clear hn
        go_enter Tryz.func81, Tryz.ntmps81
        go_wp2_with fail
        go_ret
        exact ⟨rfl, ext_two w _ _⟩
  · have q : (k == k') = false := beq_eq_false_iff_ne.2 hk
    rw [if_neg hk]
    by_cases hl : k < k'
    · rw [if_neg hk, if_pos hl]
      clear hk
      by_cases hn : n = n'
      · subst hn
        go_enter Tryz.func81, Tryz.ntmps81
        go_wp2_with fail
        go_ret
        exact ⟨rfl, ext_two w _ _⟩
      · have qn : (n == n') = false := beq_eq_false_iff_ne.2 hn
        clear hn
        go_enter Tryz.func81, Tryz.ntmps81
        go_wp2_with fail
        go_ret
        exact ⟨rfl, ext_two w _ _⟩
    · rw [if_neg hk, if_neg hl]
      clear hk
      by_cases hn : n = n'
      · subst hn
        go_enter Tryz.func81, Tryz.ntmps81
        go_wp2_with fail
        go_ret
        exact ⟨rfl, ext_two w _ _⟩
      · have qn : (n == n') = false := beq_eq_false_iff_ne.2 hn
        clear hn
        go_enter Tryz.func81, Tryz.ntmps81
        go_wp2_with fail
        go_ret
        exact ⟨rfl, ext_two w _ _⟩

end Go.Proofs.YtfnmcdjfdhdlmaaGreatDoor

/-
  Two values held against each other by ==.
-/
namespace Go.Proofs.YtfnmcdjfdhdlmaaGreatDoor
open Go.RowKit Go.BigFrame

theorem eq_val (a b : V) (w : World) : (binOp .eql 36 a.val b.val).run Tryz.prog w = .ok (.bool (decide (a = b))) w := by
  obtain ⟨k, n, s⟩ := a
  obtain ⟨k', n', s'⟩ := b
  unfold V.val
  simp only [V.mk.injEq]
  simp [go_sem]
  by_cases h1 : k = k' <;> by_cases h2 : n = n' <;> by_cases h3 : s = s' <;> simp [h1, h2, h3]

end Go.Proofs.YtfnmcdjfdhdlmaaGreatDoor

/-
  What changes one block of what was there, or some; new rows. Over any program.
-/
namespace Go.Proofs.YtfnmcdjfdhdlmaaGreatDoor
open Go.RowKit

theorem row_new (w : World) (xs : List Value) (t : TypeId) : ∀ j u, xs[j]? = some u → (w.alloc (.cells xs.toArray t)).cell? ((⟨w.heap.size, 0, none⟩ : Addr).add j) = some u := by
  intro j u hj
  rw [add_at, Nat.zero_add]
  unfold World.cell?
  rw [heap_alloc_new]
  simpa using hj
theorem ext_new (w : World) (o : Obj) : Ext w (w.alloc o) := (Below.refl _ w).alloc (Nat.le_refl _) _

/-- Only block g of what was there has changed. -/
def OnlyP (g : Nat) (w w' : World) : Prop := w.grownBy w' (some g)
theorem OnlyP.refl (g : Nat) (w : World) : OnlyP g w w := ⟨rfl, rfl, rfl, Nat.le_refl _, fun _ _ _ => rfl⟩
theorem OnlyP.trans {g : Nat} {x y z : World} (h : OnlyP g x y) (k : OnlyP g y z) : OnlyP g x z :=
  ⟨k.os.trans h.os, k.tape.trans h.tape, k.output.trans h.output, Nat.le_trans h.size k.size, fun i hi hne => (k.block i (Nat.lt_of_lt_of_le hi h.size) hne).trans (h.block i hi hne)⟩
theorem OnlyP.keeps (g : Nat) : Keeps (OnlyP g) := ⟨OnlyP.refl g, fun _ _ _ h k => OnlyP.trans h k⟩
instance (g : Nat) (w : World) : Inhabited (Later (OnlyP g) w) := ⟨⟨w, OnlyP.refl _ _⟩⟩
theorem OnlyP.of_ext {g : Nat} {w w' : World} (h : Ext w w') : OnlyP g w w' := ⟨h.os, h.tape, h.output, h.size, fun k hk _ => h.block k hk⟩
theorem OnlyP.set (g i : Nat) (w : World) (u : Value) : OnlyP g w (w.setCell ⟨g, i, none⟩ u) := by
  refine ⟨rfl, rfl, rfl, by simp [World.setCell], fun k _ hk => ?_⟩
  rw [Below.heap_setCell _ _ _ _ (fun e => hk (by rw [e]))]

theorem cell_set_other {w : World} {g i j : Nat} {b : Nat} {u : Value} (h : b ≠ g ∨ j ≠ i) : (w.setCell ⟨g, i, none⟩ u).cell? ⟨b, j, none⟩ = w.cell? ⟨b, j, none⟩ := by
  rw [World.cell?_setCell_other]
  intro e
  simp only [Addr.mk.injEq, and_true] at e
  rcases h with h | h
  · exact h e.1.symm
  · exact h e.2.symm

/-- Only blocks of the set have changed, of what was there. -/
structure OnlyS (X : Nat → Prop) (w w' : World) : Prop where
  os : w'.os = w.os
  tape : w'.tape = w.tape
  output : w'.output = w.output
  size : w.heap.size ≤ w'.heap.size
  block : ∀ b, b < w.heap.size → ¬ X b → w'.heap[b]? = w.heap[b]?

theorem OnlyS.refl (X : Nat → Prop) (w : World) : OnlyS X w w := ⟨rfl, rfl, rfl, Nat.le_refl _, fun _ _ _ => rfl⟩
theorem OnlyS.of_ext {X : Nat → Prop} {w w' : World} (h : Ext w w') : OnlyS X w w' := ⟨h.os, h.tape, h.output, h.size, fun b hb _ => h.block b hb⟩
theorem OnlyS.of_onlyP {X : Nat → Prop} {g : Nat} {w w' : World} (h : OnlyP g w w') (hg : X g) : OnlyS X w w' :=
  ⟨h.os, h.tape, h.output, h.size, fun b hb hx => h.block b hb (fun e => hx (by have : b = g := (by simpa using e); rw [this]; exact hg))⟩
theorem OnlyS.mono {X Y : Nat → Prop} {w w' : World} (h : OnlyS X w w') (hxy : ∀ b, b < w.heap.size → X b → Y b) : OnlyS Y w w' := ⟨h.os, h.tape, h.output, h.size, fun b hb hy => h.block b hb (fun hx => hy (hxy b hb hx))⟩
/-- One step behind the other; the second one's set may have new blocks. -/
theorem OnlyS.trans {X Y : Nat → Prop} {a b c : World} (h : OnlyS X a b) (k : OnlyS Y b c) (hy : ∀ i, i < a.heap.size → Y i → X i) : OnlyS X a c :=
  ⟨k.os.trans h.os, k.tape.trans h.tape, k.output.trans h.output, Nat.le_trans h.size k.size, fun i hi hx => (k.block i (Nat.lt_of_lt_of_le hi h.size) (fun hyi => hx (hy i hi hyi))).trans (h.block i hi hx)⟩
theorem OnlyS.below {X : Nat → Prop} {N : Nat} {w w' : World} (h : OnlyS X w w') (hN : N ≤ w.heap.size) (hX : ∀ b, X b → N ≤ b) : Below N w w' :=
  ⟨h.os, h.tape, h.output, h.size, fun b hb => h.block b (by omega) (fun hx => by have := hX b hx; omega)⟩
theorem OnlyS.cell {X : Nat → Prop} {w w' : World} (h : OnlyS X w w') {a : Addr} {u : Value} (hc : w.cell? a = some u) (hx : ¬ X a.block) : w'.cell? a = some u := by
  have hlt := lt_of_cell hc
  rw [← hc]
  exact World.cell?_of_block (h.block _ hlt hx)
theorem RdV.onlyS {X : Nat → Prop} {w w' : World} {v : Value} {xs : List Value} (hr : RdV w v xs) (h : OnlyS X w w') (hx : xs ≠ [] → ∀ k, v.ownBlock = some k → ¬ X k) : RdV w' v xs := by
  rcases hr with h1 | ⟨x, cap, rfl, h2, h3, h4⟩
  · exact .inl h1
  · exact .inr ⟨x, cap, rfl, h2, h3, fun i u hu => h.cell (h4 i u hu) (by rw [add_block]; exact hx (by rintro rfl; simp at hu) x.block rfl)⟩
theorem Rd.onlyS {X : Nat → Prop} {w w' : World} {v : Value} {l : List UInt8} (hr : Rd w v l) (h : OnlyS X w w') (hx : l ≠ [] → ∀ k, v.ownBlock = some k → ¬ X k) : Rd w' v l := RdV.onlyS hr h (fun hne => hx (by rintro rfl; exact hne rfl))
theorem OnlyS.of_grown {v : Value} {w w' : World} (h : w.grownBy w' v.ownBlock) : OnlyS (fun k => v.ownBlock = some k) w w' :=
  ⟨h.os, h.tape, h.output, h.size, fun b hb hx => h.block b hb (fun e => hx e.symm)⟩
theorem OnlyS.keeps (X : Nat → Prop) : Keeps (OnlyS X) := ⟨OnlyS.refl X, fun _ _ _ h k => OnlyS.trans h k fun _ _ h => h⟩
instance (X : Nat → Prop) (w : World) : Inhabited (Later (OnlyS X) w) := ⟨⟨w, OnlyS.refl _ _⟩⟩

end Go.Proofs.YtfnmcdjfdhdlmaaGreatDoor

/-
  The contracts of the document's own zones: Merge.
-/
namespace Go.Proofs.YtfnmcdjfdhdlmaaGreatDoor
open Go.RowKit Go.BigFrame

/-- A block with these cells. -/
def Blk (W : World) (b : Nat) (xs : List Value) (t : TypeId) : Prop := W.heap[b]? = some (.cells xs.toArray t (0, 0))
theorem Blk.cell {W : World} {b : Nat} {xs : List Value} {t : TypeId} (h : Blk W b xs t) (j : Nat) (u : Value) (hj : xs[j]? = some u) : W.cell? ⟨b, j, none⟩ = some u := by
  unfold World.cell?
  rw [show W.heap[b]? = _ from h]
  simpa using hj
theorem Blk.free {W : World} {b : Nat} {xs : List Value} {t : TypeId} (h : Blk W b xs t) (j : Nat) : W.frozen? ⟨b, j, none⟩ = false := by
  unfold World.frozen?
  rw [show W.heap[b]? = _ from h]
  simp
theorem Blk.lt {W : World} {b : Nat} {xs : List Value} {t : TypeId} (h : Blk W b xs t) : b < W.heap.size := (Array.getElem?_eq_some_iff.1 h).1
theorem Blk.ext {W W' : World} {b : Nat} {xs : List Value} {t : TypeId} (h : Blk W b xs t) (hx : Ext W W') : Blk W' b xs t := (hx.block b h.lt).trans h
theorem Blk.new (W : World) (xs : List Value) (t : TypeId) : Blk (W.alloc (.cells xs.toArray t)) W.heap.size xs t := heap_alloc_new _ _
theorem Blk.set {W : World} {b : Nat} {xs : List Value} {t : TypeId} (h : Blk W b xs t) (j : Nat) (u : Value) : Blk (W.setCell ⟨b, j, none⟩ u) b (xs.set j u) t := by
  unfold Blk at *
  simp [World.setCell, Array.getElem?_modify, h]
theorem Blk.beside {W : World} {b b' : Nat} {xs : List Value} {t : TypeId} (h : Blk W b xs t) (hne : b ≠ b') (j : Nat) (u : Value) : Blk (W.setCell ⟨b', j, none⟩ u) b xs t := by
  unfold Blk at *
  rw [Below.heap_setCell _ _ _ _ hne]
  exact h

/-- Where Merge stands: both zones, the answer's place, the zone under way. -/
structure MZ (w : World) (p q r z : Zo) (W : World) : Prop where
  p : Blk W w.heap.size p.cells 47
  q : Blk W (w.heap.size + 1) q.cells 47
  r : Blk W (w.heap.size + 1 + 1) r.cells 47
  z : Blk W (w.heap.size + 1 + 1 + 1) z.cells 47
  x : Ext w W
theorem MZ.ext {w : World} {p q r z : Zo} {W W' : World} (h : MZ w p q r z W) (hx : Ext W W') : MZ w p q r z W' := ⟨h.p.ext hx, h.q.ext hx, h.r.ext hx, h.z.ext hx, Ext.trans h.x hx⟩
theorem MZ.start (w : World) (p q r z : Zo) : MZ w p q r z ((((w.alloc (.cells p.cells.toArray 47)).alloc (.cells q.cells.toArray 47)).alloc (.cells r.cells.toArray 47)).alloc (.cells z.cells.toArray 47)) := by
  have h1 := Blk.new w p.cells 47
  have h2 := Blk.new (w.alloc (.cells p.cells.toArray 47)) q.cells 47
  have h3 := Blk.new ((w.alloc (.cells p.cells.toArray 47)).alloc (.cells q.cells.toArray 47)) r.cells 47
  have h4 := Blk.new (((w.alloc (.cells p.cells.toArray 47)).alloc (.cells q.cells.toArray 47)).alloc (.cells r.cells.toArray 47)) z.cells 47
  simp only [World.alloc, Array.size_push] at h2 h3 h4
  exact ⟨((h1.ext (ext_new _ _)).ext (ext_new _ _)).ext (ext_new _ _), (Blk.ext h2 (ext_new _ _)).ext (ext_new _ _), Blk.ext h3 (ext_new _ _), h4,
    Ext.trans (Ext.trans (Ext.trans (ext_new _ _) (ext_new _ _)) (ext_new _ _)) (ext_new _ _)⟩

theorem MZ.setA {w : World} {p q r z : Zo} {W : World} (h : MZ w p q r z W) (v : V) :
    MZ w p q r ⟨v, z.b, z.n, z.m⟩ (((W.setCell ⟨w.heap.size + 1 + 1 + 1, 0, none⟩ (.int .u8 v.k)).setCell ⟨w.heap.size + 1 + 1 + 1, 1, none⟩ (.int .i64 v.n)).setCell ⟨w.heap.size + 1 + 1 + 1, 2, none⟩ (.string ⟨v.s.toArray⟩)) :=
  ⟨((h.p.beside (by omega) _ _).beside (by omega) _ _).beside (by omega) _ _, ((h.q.beside (by omega) _ _).beside (by omega) _ _).beside (by omega) _ _, ((h.r.beside (by omega) _ _).beside (by omega) _ _).beside (by omega) _ _,
    ((h.z.set 0 _).set 1 _).set 2 _, Below.setCell (Below.setCell (Below.setCell h.x (by show w.heap.size ≤ w.heap.size + 1 + 1 + 1; omega) _) (by show w.heap.size ≤ w.heap.size + 1 + 1 + 1; omega) _) (by show w.heap.size ≤ w.heap.size + 1 + 1 + 1; omega) _⟩
theorem MZ.setB {w : World} {p q r z : Zo} {W : World} (h : MZ w p q r z W) (v : V) :
    MZ w p q r ⟨z.a, v, z.n, z.m⟩ (((W.setCell ⟨w.heap.size + 1 + 1 + 1, 3, none⟩ (.int .u8 v.k)).setCell ⟨w.heap.size + 1 + 1 + 1, 4, none⟩ (.int .i64 v.n)).setCell ⟨w.heap.size + 1 + 1 + 1, 5, none⟩ (.string ⟨v.s.toArray⟩)) :=
  ⟨((h.p.beside (by omega) _ _).beside (by omega) _ _).beside (by omega) _ _, ((h.q.beside (by omega) _ _).beside (by omega) _ _).beside (by omega) _ _, ((h.r.beside (by omega) _ _).beside (by omega) _ _).beside (by omega) _ _,
    ((h.z.set 3 _).set 4 _).set 5 _, Below.setCell (Below.setCell (Below.setCell h.x (by show w.heap.size ≤ w.heap.size + 1 + 1 + 1; omega) _) (by show w.heap.size ≤ w.heap.size + 1 + 1 + 1; omega) _) (by show w.heap.size ≤ w.heap.size + 1 + 1 + 1; omega) _⟩

/-- The answer, stored. -/
theorem MZ.told {w : World} {p q r z : Zo} {W : World} (h : MZ w p q r z W) :
    Blk ((((((((W.setCell ⟨w.heap.size + 1 + 1, 0, none⟩ (.int .u8 z.a.k)).setCell ⟨w.heap.size + 1 + 1, 1, none⟩ (.int .i64 z.a.n)).setCell ⟨w.heap.size + 1 + 1, 2, none⟩ (.string ⟨z.a.s.toArray⟩)).setCell ⟨w.heap.size + 1 + 1, 3, none⟩ (.int .u8 z.b.k)).setCell ⟨w.heap.size + 1 + 1, 4, none⟩ (.int .i64 z.b.n)).setCell ⟨w.heap.size + 1 + 1, 5, none⟩ (.string ⟨z.b.s.toArray⟩)).setCell ⟨w.heap.size + 1 + 1, 6, none⟩ (.int .i64 z.n)).setCell ⟨w.heap.size + 1 + 1, 7, none⟩ (.int .i64 z.m)) (w.heap.size + 1 + 1) z.cells 47 ∧
      Ext w ((((((((W.setCell ⟨w.heap.size + 1 + 1, 0, none⟩ (.int .u8 z.a.k)).setCell ⟨w.heap.size + 1 + 1, 1, none⟩ (.int .i64 z.a.n)).setCell ⟨w.heap.size + 1 + 1, 2, none⟩ (.string ⟨z.a.s.toArray⟩)).setCell ⟨w.heap.size + 1 + 1, 3, none⟩ (.int .u8 z.b.k)).setCell ⟨w.heap.size + 1 + 1, 4, none⟩ (.int .i64 z.b.n)).setCell ⟨w.heap.size + 1 + 1, 5, none⟩ (.string ⟨z.b.s.toArray⟩)).setCell ⟨w.heap.size + 1 + 1, 6, none⟩ (.int .i64 z.n)).setCell ⟨w.heap.size + 1 + 1, 7, none⟩ (.int .i64 z.m)) := by
  have hk : w.heap.size ≤ w.heap.size + 1 + 1 := by omega
  exact ⟨((((((((h.r.set 0 _).set 1 _).set 2 _).set 3 _).set 4 _).set 5 _).set 6 _).set 7 _),
    Below.setCell (Below.setCell (Below.setCell (Below.setCell (Below.setCell (Below.setCell (Below.setCell (Below.setCell h.x hk _) hk _) hk _) hk _) hk _) hk _) hk _) hk _⟩
/-- Is the second one the one to be told? -/
def swapZ (c : V → V → Int) (a b : V) : Bool := decide (a.k = 0 ∨ (b.k ≠ 0 ∧ c b a < 0))
theorem pick_swap (c : V → V → Int) (a b : V) : pick c a b = nz (bif swapZ c a b then b else a) := by
  unfold pick swapZ
  by_cases h : a.k = 0 ∨ (b.k ≠ 0 ∧ c b a < 0)
  · rw [if_pos h, decide_eq_true h]; rfl
  · rw [if_neg h, decide_eq_false h]; rfl

end Go.Proofs.YtfnmcdjfdhdlmaaGreatDoor

/-
  New rows of bytes: what a call hands back, what it owns, what stays as it was.
-/
namespace Go.Proofs.YtfnmcdjfdhdlmaaGreatDoor
open Go.RowKit

theorem Tryz.info5 : (Tryz.prog.info? 5).map (fun i => (i.zero, i.size, i.bytes)) = some (some (.int .u8 0), 1, 1) := by kernel_rfl

/-- What a call leaves that hands back a slice of its own. -/
def Fresh (e : TypeId) (w : World) (xs : List Value) (r : Ending) (w' : World) : Prop :=
  ∃ v, r = .returned v ∧ w'.ownsRow w.heap.size e 1 v xs.length xs ∧ Below w.heap.size w w'

theorem kept_cells {w w' : World} (hg : w.grownBy w' none) {x : Addr} {xs : List Value} (h : ∀ i u, xs[i]? = some u → w.cell? (x.add i) = some u) : ∀ i u, xs[i]? = some u → w'.cell? (x.add i) = some u :=
  fun i u hu => hg.cell (h i u hu) (by simp)

/-- append([]byte{}, b...): what stands ahead of every encoding of the reference. -/
theorem empty_owned (w : World) : (w.alloc (.cells #[] 5)).ownsRow w.heap.size 5 1 (.slice (some ⟨w.heap.size, 0, none⟩) 0 0) 0 [] := World.ownsRow_made w #[] 0 (Nat.le_refl _) (by simp [maxLen]) rfl

/-- A new block of one cell is the call's own. -/
theorem one_owned (w : World) (base : Nat) (x : Value) (hb : base ≤ w.heap.size) : (w.alloc (.cells #[x] 5)).ownsRow base 5 1 (.slice (some ⟨w.heap.size, 0, none⟩) 1 1) 1 [x] :=
  ⟨rfl, .inr ⟨w.heap.size, 1, #[x], rfl, hb, heap_alloc_new w _, Nat.le_refl _, by simp [maxLen], rfl, rfl⟩⟩

/-- What reads from elsewhere goes on so while the call's own row grows. -/
theorem kept_owned {w w4 : World} {o : Obj} {v u : Value} {l : List UInt8} (hg : (w.alloc o).grownBy w4 v.ownBlock) (hd : ∀ k, u.ownBlock = some k → v.ownBlock ≠ some k) (hr : Rd w u l) : Rd w4 u l := by
  rcases hr with h | ⟨x, cap, rfl, h2, h3, h4⟩
  · exact .inl h
  · refine .inr ⟨x, cap, rfl, h2, h3, fun i y hy => ?_⟩
    have hc := h4 i y hy
    have hc' : (w.alloc o).cell? (x.add i) = some y := by
      rw [(((Below.refl _ w).alloc (Nat.le_refl _) o).cell (lt_of_cell hc))]; exact hc
    refine hg.cell hc' (fun hh => ?_)
    rw [add_block] at hh
    exact hd x.block rfl hh.symm

/-- A row of bytes of the call's own, whatever they are. -/
def OwnB (base : Nat) (w : World) (v : Value) (n : Nat) : Prop := ∃ xs, w.ownsRow base 5 1 v n xs ∧ ∀ u ∈ xs, ∃ z : Int, u = .int .u8 z

theorem OwnB.of_bytes {base : Nat} {w : World} {v : Value} {n : Nat} {l : List UInt8} (h : w.ownsRow base 5 1 v n (l.map bv)) : OwnB base w v n :=
  ⟨_, h, fun u hu => by obtain ⟨c, _, rfl⟩ := List.mem_map.1 hu; exact ⟨_, rfl⟩⟩

theorem owns_later {base : Nat} {e : TypeId} {w w' : World} {v : Value} {n : Nat} {xs : List Value} (h : w.ownsRow base e 1 v n xs) (hb : Below w.heap.size w w') : w'.ownsRow base e 1 v n xs :=
  h.kept (row := none) ⟨hb.os, hb.tape, hb.output, hb.size, fun k hk _ => hb.block k hk⟩ (by cases v.ownBlock <;> simp)

theorem OwnB.at {base g n cap i : Nat} {w : World} (h : OwnB base w (.slice (some ⟨g, 0, none⟩) n cap) n) (hi : i < n) : ∃ z : Int, w.cell? ⟨g, i, none⟩ = some (.int .u8 z) := by
  obtain ⟨xs, ho, hx⟩ := h
  have hl : xs.length = n := by simpa using ho.1
  have hc := ho.cellAt i (by omega)
  rw [List.getElem?_eq_getElem (by omega)] at hc
  obtain ⟨z, hz⟩ := hx _ (List.getElem_mem (show i < xs.length by omega))
  exact ⟨z, by rw [hc, hz]⟩

theorem OwnB.free {base g n cap : Nat} {w : World} (h : OwnB base w (.slice (some ⟨g, 0, none⟩) n cap) n) (i : Nat) : w.frozen? ⟨g, i, none⟩ = false := h.choose_spec.1.frozenAt i

theorem OwnB.put {base g n cap : Nat} {w : World} (h : OwnB base w (.slice (some ⟨g, 0, none⟩) n cap) n) (i : Nat) (z : Int) : OwnB base (w.setCell ⟨g, i, none⟩ (.int .u8 z)) (.slice (some ⟨g, 0, none⟩) n cap) n := by
  obtain ⟨xs, ho, hx⟩ := h
  refine ⟨_, (ho.stored i _).1, fun u hu => ?_⟩
  rcases List.mem_or_eq_of_mem_set hu with h | rfl
  · exact hx u h
  · exact ⟨z, rfl⟩

theorem OwnB.other {base g i n : Nat} {w : World} {v u : Value} (h : OwnB base w v n) (hd : v.ownBlock ≠ some g) (_hg : g < w.heap.size) : OwnB base (w.setCell ⟨g, i, none⟩ u) v n := by
  obtain ⟨xs, ho, hx⟩ := h
  exact ⟨xs, ho.kept (row := some g) ⟨rfl, rfl, rfl, by simp [World.setCell], fun k _ hk => Below.heap_setCell _ _ _ _ (fun e => hk (by rw [e]))⟩ (.inr hd), hx⟩

theorem OwnB.lt {base g n cap m : Nat} {w : World} (h : OwnB base w (.slice (some ⟨g, 0, none⟩) n cap) m) : base ≤ g ∧ g < w.heap.size := h.choose_spec.1.lt g rfl

theorem OwnB.base {b b' n : Nat} {w : World} {v : Value} (h : OwnB b w v n) (hb : b' ≤ b) : OwnB b' w v n := by
  obtain ⟨xs, ho, hx⟩ := h
  refine ⟨xs, ⟨ho.1, ?_⟩, hx⟩
  rcases ho.2 with h | ⟨g, cap, cur, h1, h2, h3⟩
  · exact .inl h
  · exact .inr ⟨g, cap, cur, h1, by omega, h3⟩

theorem owns_shape {base : Nat} {e : TypeId} {w : World} {v : Value} {n : Nat} {xs : List Value} (h : w.ownsRow base e 1 v n xs) (hn : 0 < n) : ∃ g cap, v = .slice (some ⟨g, 0, none⟩) n cap ∧ base ≤ g ∧ g < w.heap.size ∧ n ≤ cap ∧ cap ≤ maxLen := by
  rcases h.2 with ⟨_, h0⟩ | ⟨g, cap, cur, rfl, hb, hg, h1, h2, _⟩
  · omega
  · exact ⟨g, cap, rfl, hb, (Array.getElem?_eq_some_iff.1 hg).1, h1, h2⟩

/-- A slice as its cells, nil or not. -/
theorem RdV.cellsAt {w : World} {v : Value} {xs : List Value} (h : RdV w v xs) :
    ∃ ao cap, v = .slice ao xs.length cap ∧ xs.length ≤ cap ∧ cap ≤ maxLen ∧ ∀ i u, xs[i]? = some u → ∃ x, ao = some x ∧ w.cell? (x.add i) = some u := by
  rcases h with ⟨rfl, rfl⟩ | ⟨x, cap, rfl, h2, h3, h4⟩
  · exact ⟨none, 0, rfl, Nat.le_refl _, by simp [maxLen], fun i u hu => by simp at hu⟩
  · exact ⟨some x, cap, rfl, h2, h3, fun i u hu => ⟨x, rfl, h4 i u hu⟩⟩

/-- An operation whose guard holds is as without it. -/
theorem wpList_struck {P : Program} {ops : Array Oper} {Q : Exit → Act → World → Prop} {rest : List Oper} {o : Oper} {a : Act} {w : World} (hw : Region.wanted o (yielded ops a.tmps) = true)
    (h : wpList P ops Q ({ o with guard := none } :: rest) a w) : wpList P ops Q (o :: rest) a w := by
  unfold wpList at h ⊢
  rw [if_pos hw]
  rw [if_pos (by simp [Region.wanted])] at h
  exact h

theorem OwnB.start {base L cap k : Nat} {w : World} {a : Option Addr} (h : OwnB base w (.slice a L cap) L) (hk : k < L) : ∃ g, a = some ⟨g, 0, none⟩ := by
  obtain ⟨xs, ho, _⟩ := h
  obtain ⟨g, c, e, _⟩ := owns_shape ho (by omega)
  simp only [Value.slice.injEq] at e
  exact ⟨g, e.1⟩

theorem OwnB.later {base n : Nat} {w w' : World} {v : Value} (h : OwnB base w v n) (hb : Below w.heap.size w w') : OwnB base w' v n := by
  obtain ⟨xs, ho, hx⟩ := h
  exact ⟨xs, owns_later ho hb, hx⟩

end Go.Proofs.YtfnmcdjfdhdlmaaGreatDoor

/-
  Rows of values of one's own, the first ones of a row. Over any program.
-/
namespace Go.Proofs.YtfnmcdjfdhdlmaaGreatDoor
open Go.ChangeAt Go.RowKit

theorem Tryz.info_val : (Tryz.prog.info? 36).map (fun i => (i.zero, i.size, i.bytes)) = some (some (.agg #[.int .u8 0, .int .i64 0, .string ByteArray.empty]), 3, 32) := by kernel_rfl

theorem val_oneCell (v : V) : ∀ u ∈ v.cells, u.oneCell' = true := by
  intro u hu
  simp only [V.cells, List.mem_cons, List.not_mem_nil, or_false] at hu
  rcases hu with rfl | rfl | rfl <;> rfl
theorem valCells (l : List V) (j : Nat) (hj : j < l.length) (i : Nat) (hi : i < 3) : (l.flatMap V.cells)[j * 3 + i]? = (l[j].cells)[i]? := by
  induction l generalizing j with
  | nil => simp at hj
  | cons a t ih =>
    have hc : a.cells.length = 3 := rfl
    cases j with
    | zero =>
      rw [List.flatMap_cons, Nat.zero_mul, Nat.zero_add, List.getElem?_append_left (by omega)]
      rfl
    | succ j =>
      have h := ih j (by simpa using hj)
      rw [List.flatMap_cons, List.getElem?_append_right (by omega), hc, show (j + 1) * 3 + i - 3 = j * 3 + i by omega]
      exact h
theorem valCells_length (l : List V) : (l.flatMap V.cells).length = l.length * 3 := by
  induction l with
  | nil => rfl
  | cons a t ih => rw [List.flatMap_cons, List.length_append, ih, List.length_cons]; show 3 + _ = _; omega
theorem RdVals.of_owns {E : TypeId} {base : Nat} {w : World} {v : Value} {l : List V} (h : w.ownsRow base E 3 v l.length (l.flatMap V.cells)) : RdVals w v l := by
  rcases h.2 with ⟨h1, h2⟩ | ⟨g, cap, cur, rfl, h2, h3, h4, h5, _⟩
  · obtain rfl := List.length_eq_zero_iff.1 h2
    rw [h1]
    exact RdVals.nil w
  · have hc := fun i u hu => h.cells (g := g) rfl i u hu
    refine ⟨_, cap, rfl, h4, h5, fun j hj => ⟨g, 0, rfl, fun i y hy => ?_⟩⟩
    have hi : i < 3 := (List.getElem?_eq_some_iff.1 hy).1
    have c := hc _ _ ((valCells l j hj i hi).trans hy)
    rw [add_at] at c
    rw [Nat.add_assoc]
    exact c
/-- append(l, v) of a value. -/
theorem wpList_append_val {ops : Array Oper} {rest : List Oper} {o : Oper} {a : Act} {Q : Exit → Act → World → Prop} {w : World} (hgd : o.guard = none) (s x : Operand)
    (ho : o.op = .call { callee := .builtin .append, args := #[s, x], argTypes := #[41, 41] })
    (base : Nat) (v : Value) (ps : List V) (e : V) (hs : a.eval s = v) (hown : w.ownsRow base 36 3 v ps.length (ps.flatMap V.cells))
    (hx : a.eval x = .slice (some ⟨w.heap.size, 0, none⟩) 1 1) (hp : ps.length ≤ 100000000) (hbase : base ≤ w.heap.size)
    (h : ∀ v' w', w'.ownsRow base 36 3 v' (ps ++ [e]).length ((ps ++ [e]).flatMap V.cells) → Below base w w' → OnlyS (fun k => v.ownBlock = some k) w w' → wpList Tryz.prog ops Q rest (a.put o.dst v') w') :
    wpList Tryz.prog ops Q (o :: rest) a (w.alloc (.cells e.cells.toArray 36)) := by
  obtain ⟨i0, hi, hz0, hz1, hz2⟩ := info_parts Tryz.info_val
  have hc := row_new w e.cells 36
  refine wpList_append_own _ hgd s x 41 ho base 36 i0 _ 3 32 Tryz.underlying41 hi hz0 hz1 hz2 rfl (by decide) v ps.length _ hs (hown.alloc _) ⟨w.heap.size, 0, none⟩ 1 1 e.cells hx rfl hc (val_oneCell e) (by unfold maxLen; omega) (by omega) (by simp; omega) fun v' w' h1 h2 _ => h v' w' ?_ ?_ ?_
  · rw [List.length_append, List.flatMap_append]
    simpa using h1
  · exact (((Below.refl base w).alloc hbase _).grown h2 (by simp; omega) (fun b hb => (hown.lt b hb).1))
  · exact (OnlyS.of_ext (ext_new w _)).trans (OnlyS.of_grown h2) (fun _ _ h => h)
/-- The first ones. -/
theorem RdVals.take {w : World} {ao : Option Addr} {N cap : Nat} {l : List V} (h : RdVals w (.slice ao N cap) l) (K : Nat) (hK : K ≤ N) : RdVals w (.slice ao K cap) (l.take K) := by
  obtain ⟨a', cap', h1, h2, h3, h4⟩ := h
  simp only [Value.slice.injEq] at h1
  obtain ⟨rfl, rfl, rfl⟩ := h1
  have hl : (l.take K).length = K := by rw [List.length_take]; omega
  refine ⟨ao, cap, by rw [hl], by omega, h3, fun j hj => ?_⟩
  rw [List.getElem_take]
  exact h4 j (by omega)
/-- Each value's cells, with the address in parts. -/
theorem RdVals.plain {w : World} {ao : Option Addr} {N cap : Nat} {l : List V} (h : RdVals w (.slice ao N cap) l) : N = l.length ∧ N ≤ cap ∧ cap ≤ maxLen ∧ ∀ j, (hj : j < l.length) → ∃ g off, ao = some ⟨g, off, none⟩ ∧
    w.cell? ⟨g, off + j * 3, none⟩ = some (.int .u8 l[j].k) ∧ w.cell? ⟨g, off + j * 3 + 1, none⟩ = some (.int .i64 l[j].n) ∧ w.cell? ⟨g, off + j * 3 + 2, none⟩ = some (.string ⟨l[j].s.toArray⟩) := by
  obtain ⟨a', cap', h1, h2, h3, h4⟩ := h
  simp only [Value.slice.injEq] at h1
  obtain ⟨rfl, rfl, rfl⟩ := h1
  refine ⟨rfl, h2, h3, fun j hj => ?_⟩
  obtain ⟨g, off, e, hc⟩ := h4 j hj
  exact ⟨g, off, e, hc 0 _ rfl, hc 1 _ rfl, hc 2 _ rfl⟩

end Go.Proofs.YtfnmcdjfdhdlmaaGreatDoor

/-
  What an argument that came in as plain data is to a walk: a slice of numbers, of bytes, of strings, as the list that it reads as.
-/
namespace Go.Proofs.YtfnmcdjfdhdlmaaGreatDoor
open Go.ChangeShapes Go.WideShapes Go.ChangeAt Go.RowKit

section
variable {H : Type} {enc : TypeId × Value → H} {P : Program} {w : World} {base : Nat} {held : Bool}

theorem rdV_row {x : Addr} {len cap : Nat} {xs : List Value} (hl : len ≤ cap) (hm : cap ≤ maxLen) (hz : xs.length = cap) (hc : ∀ i u, xs[i]? = some u → w.cell? (x.add i) = some u) : RdV w (.slice (some x) len cap) (xs.take len) := by
  refine .inr ⟨x, cap, by rw [List.length_take, hz, Nat.min_eq_left hl], by rw [List.length_take]; omega, hm, fun i u hu => hc i u ?_⟩
  rw [List.getElem?_take] at hu
  split at hu
  · exact hu
  · cases hu

/-- A slice of numbers. -/
theorem read_ints {t e : TypeId} {k : IntKind} {v : Value} {d : DataW H} {ps : List MemPlace} (ht : P.underlying t = some (.slice e)) (he : P.underlying e = some (.int k)) (hc : P.cellsOf e = 1)
    (hv : v.cells.toList = [v]) (h : DataW.Trod enc P w base (fun _ => true) held t v d ps) :
    ∃ zs : List Int, RdV w v (zs.map (Value.int k)) ∧ ∀ n ∈ zs, (Lit.int k n).wf = true := by
  obtain ⟨fuel, hf⟩ := h
  rw [hv] at hf
  rcases open_ints ht he hc hf with ⟨hcs, _⟩ | ⟨x, l, c, zs, hcs, _, hl, hm, hz, _, hcell, hwz⟩
  · obtain rfl : v = .slice none 0 0 := by simpa using hcs
    exact ⟨[], RdV.nil w, by simp⟩
  · obtain rfl : v = .slice (some x) l c := by simpa using hcs
    refine ⟨zs.take l, ?_, fun n hn => hwz n (List.mem_of_mem_take hn)⟩
    rw [List.map_take]
    refine rdV_row hl hm (by simpa using hz) fun i u hu => ?_
    rw [List.getElem?_map] at hu
    obtain ⟨n, hn, rfl⟩ := Option.map_eq_some_iff.1 hu
    have hi : i < zs.length := (List.getElem?_eq_some_iff.1 hn).1
    rw [hcell i hi, List.getD_eq_getElem?_getD, hn]
    rfl

theorem bytes_of_wf : ∀ (zs : List Int), (∀ n ∈ zs, (Lit.int .u8 n).wf = true) → zs.map (Value.int .u8) = (zs.map fun n => UInt8.ofNat n.toNat).map bv
  | [], _ => rfl
  | n :: zs, h => by
    have hn := h n (by simp)
    have hb : 0 ≤ n ∧ n ≤ 255 := bounds_u8 hn
    simp only [List.map_cons]
    rw [bytes_of_wf zs fun m hm => h m (by simp [hm])]
    congr 1
    unfold bv
    rw [UInt8.toNat_ofNat']
    congr 1
    omega

/-- A slice of bytes. -/
theorem read_bytes {t e : TypeId} {v : Value} {d : DataW H} {ps : List MemPlace} (ht : P.underlying t = some (.slice e)) (he : P.underlying e = some (.int .u8)) (hc : P.cellsOf e = 1)
    (hv : v.cells.toList = [v]) (h : DataW.Trod enc P w base (fun _ => true) held t v d ps) : ∃ l : List UInt8, Rd w v l := by
  obtain ⟨zs, hr, hw⟩ := read_ints ht he hc hv h
  rw [bytes_of_wf zs hw] at hr
  exact ⟨_, hr⟩

/-- A slice of strings. -/
theorem read_strings {t e : TypeId} {v : Value} {d : DataW H} {ps : List MemPlace} (ht : P.underlying t = some (.slice e)) (he : P.underlying e = some .string) (hc : P.cellsOf e = 1)
    (hv : v.cells.toList = [v]) (h : DataW.Trod enc P w base (fun _ => true) held t v d ps) :
    ∃ ss : List ByteArray, RdV w v (ss.map Value.string) ∧ ∀ s ∈ ss, s.size ≤ maxLen := by
  obtain ⟨fuel, hf⟩ := h
  rw [hv] at hf
  rcases open_strings ht he hc hf with ⟨hcs, _⟩ | ⟨x, l, c, ss, hcs, _, hl, hm, hz, _, hcell, hws⟩
  · obtain rfl : v = .slice none 0 0 := by simpa using hcs
    exact ⟨[], RdV.nil w, by simp⟩
  · obtain rfl : v = .slice (some x) l c := by simpa using hcs
    refine ⟨ss.take l, ?_, fun n hn => hws n (List.mem_of_mem_take hn)⟩
    rw [List.map_take]
    refine rdV_row hl hm (by simpa using hz) fun i u hu => ?_
    rw [List.getElem?_map] at hu
    obtain ⟨n, hn, rfl⟩ := Option.map_eq_some_iff.1 hu
    have hi : i < ss.length := (List.getElem?_eq_some_iff.1 hn).1
    rw [hcell i hi, List.getD_eq_getElem?_getD, hn]
    rfl

end
end Go.Proofs.YtfnmcdjfdhdlmaaGreatDoor

/-
  What a call answers: bytes, numbers, and an error; a row of the call's own.
-/
namespace Go.Proofs.YtfnmcdjfdhdlmaaGreatDoor
open Go.ChangeAt Go.RowKit

theorem Tryz.info_int8 : (Tryz.prog.info? 3).map (fun i => (i.zero, i.size, i.bytes)) = some (some (.int .i64 0), 1, 8) := by kernel_rfl
theorem own_shapeP {base : Nat} {e : TypeId} {w : World} {v : Value} {n : Nat} {xs : List Value} (h : w.ownsRow base e 1 v n xs) : ∃ a cap, v = .slice a n cap ∧ n ≤ cap ∧ cap ≤ maxLen := by
  rcases h.2 with ⟨rfl, rfl⟩ | ⟨g, cap, cur, rfl, h2, h3, h4, h5, _⟩
  · exact ⟨none, 0, rfl, Nat.le_refl _, by simp [maxLen]⟩
  · exact ⟨_, cap, rfl, h4, h5⟩
/-- A call answers these bytes, of its own, and this error. -/
def AnsB (w : World) (r : List UInt8 × Int) (e : Ending) (w' : World) : Prop := ∃ v, e = .returned (.tuple #[v, .int .i64 r.2]) ∧ w'.ownsRow w.heap.size 5 1 v r.1.length (r.1.map bv) ∧ Ext w w'
/-- A call answers these numbers, of its own, and this error. -/
def AnsI (w : World) (r : List Int × Int) (e : Ending) (w' : World) : Prop := ∃ v, e = .returned (.tuple #[v, .int .i64 r.2]) ∧ w'.ownsRow w.heap.size 3 1 v r.1.length (r.1.map (Value.int .i64)) ∧ Ext w w'

theorem owns_nil (w : World) (base : Nat) (e : TypeId) (size : Nat) : w.ownsRow base e size (.slice none 0 0) 0 [] := ⟨by simp, .inl ⟨rfl, rfl⟩⟩
theorem owns_base {base base' : Nat} {e : TypeId} {size : Nat} {w : World} {v : Value} {n : Nat} {xs : List Value} (h : w.ownsRow base e size v n xs) (hb : base' ≤ base) : w.ownsRow base' e size v n xs :=
  ⟨h.1, h.2.imp id fun ⟨g, cap, cur, h1, h2, h3⟩ => ⟨g, cap, cur, h1, Nat.le_trans hb h2, h3⟩⟩
theorem owns_ext {base : Nat} {e : TypeId} {w w' : World} {v : Value} {n : Nat} {xs : List Value} (h : w.ownsRow base e 1 v n xs) (hb : Ext w w') : w'.ownsRow base e 1 v n xs := owns_later h hb

end Go.Proofs.YtfnmcdjfdhdlmaaGreatDoor

/-
  Nodes in memory: rows of them, ==, append. Over the program.
-/
namespace Go.Proofs.YtfnmcdjfdhdlmaaGreatDoor
open Go.ChangeAt Go.RowKit Go.BigFrame

theorem eq_nd (a b : Nd) (w : World) : (binOp .eql 38 a.val b.val).run Tryz.prog w = .ok (.bool (decide (a = b))) w := by
  obtain ⟨o, c, k, ⟨vk, vn, vs⟩⟩ := a
  obtain ⟨o', c', k', ⟨vk', vn', vs'⟩⟩ := b
  unfold Nd.val
  simp only [Nd.mk.injEq, V.mk.injEq]
  simp [go_sem]
  by_cases h1 : o = o' <;> by_cases h2 : c = c' <;> by_cases h3 : k = k' <;> by_cases h4 : vk = vk' <;> by_cases h5 : vn = vn' <;> by_cases h6 : vs = vs' <;> simp [h1, h2, h3, h4, h5, h6]

/-- A slice reads as these nodes. -/
def RdNds (w : World) (u : Value) (l : List Nd) : Prop :=
  ∃ ao cap, u = .slice ao l.length cap ∧ l.length ≤ cap ∧ cap ≤ maxLen ∧ ∀ j, (hj : j < l.length) → ∃ g off, ao = some ⟨g, off, none⟩ ∧ ∀ i y, (l[j].cells)[i]? = some y → w.cell? ⟨g, off + j * 6 + i, none⟩ = some y
theorem RdNds.mono {w w' : World} {u : Value} {l : List Nd} (h : RdNds w u l) (hb : Below w.heap.size w w') : RdNds w' u l := by
  obtain ⟨ao, cap, h1, h2, h3, h4⟩ := h
  refine ⟨ao, cap, h1, h2, h3, fun j hj => ?_⟩
  obtain ⟨g, off, h5, h6⟩ := h4 j hj
  exact ⟨g, off, h5, fun i y hy => (hb.cell (World.block_lt_of_cell? w _ (h6 i y hy))).trans (h6 i y hy)⟩
theorem RdNds.nil (w : World) : RdNds w (.slice none 0 0) [] := ⟨none, 0, rfl, Nat.le_refl _, by simp [maxLen], fun j hj => by simp at hj⟩
theorem RdNds.shape {w : World} {u : Value} {l : List Nd} (h : RdNds w u l) : ∃ a cap, u = .slice a l.length cap ∧ l.length ≤ cap ∧ cap ≤ maxLen := by
  obtain ⟨a, cap, h1, h2, h3, _⟩ := h
  exact ⟨a, cap, h1, h2, h3⟩
theorem RdNds.plain {w : World} {ao : Option Addr} {N cap : Nat} {l : List Nd} (h : RdNds w (.slice ao N cap) l) : N = l.length ∧ N ≤ cap ∧ cap ≤ maxLen ∧ ∀ j, (hj : j < l.length) → ∃ g off, ao = some ⟨g, off, none⟩ ∧
    w.cell? ⟨g, off + j * 6, none⟩ = some (.int .u8 l[j].op) ∧ w.cell? ⟨g, off + j * 6 + 1, none⟩ = some (.int .i64 l[j].col) ∧ w.cell? ⟨g, off + j * 6 + 2, none⟩ = some (.int .i64 l[j].kids) ∧
    w.cell? ⟨g, off + j * 6 + 3, none⟩ = some (.int .u8 l[j].v.k) ∧ w.cell? ⟨g, off + j * 6 + 4, none⟩ = some (.int .i64 l[j].v.n) ∧ w.cell? ⟨g, off + j * 6 + 5, none⟩ = some (.string ⟨l[j].v.s.toArray⟩) := by
  obtain ⟨a', cap', h1, h2, h3, h4⟩ := h
  simp only [Value.slice.injEq] at h1
  obtain ⟨rfl, rfl, rfl⟩ := h1
  refine ⟨rfl, h2, h3, fun j hj => ?_⟩
  obtain ⟨g, off, e, hc⟩ := h4 j hj
  exact ⟨g, off, e, hc 0 _ rfl, hc 1 _ rfl, hc 2 _ rfl, hc 3 _ rfl, hc 4 _ rfl, hc 5 _ rfl⟩

theorem Tryz.info_node : (Tryz.prog.info? 38).map (fun i => (i.zero, i.size, i.bytes)) = some (some (.agg #[.int .u8 0, .int .i64 0, .int .i64 0, .int .u8 0, .int .i64 0, .string ByteArray.empty]), 6, 56) := by kernel_rfl
theorem nd_oneCell (n : Nd) : ∀ u ∈ n.cells, u.oneCell' = true := by
  intro u hu
  simp only [Nd.cells, List.mem_cons, List.not_mem_nil, or_false] at hu
  rcases hu with rfl | rfl | rfl | rfl | rfl | rfl <;> rfl
theorem ndCells (l : List Nd) (j : Nat) (hj : j < l.length) (i : Nat) (hi : i < 6) : (l.flatMap Nd.cells)[j * 6 + i]? = (l[j].cells)[i]? := by
  induction l generalizing j with
  | nil => simp at hj
  | cons a t ih =>
    have hc : a.cells.length = 6 := rfl
    cases j with
    | zero =>
      rw [List.flatMap_cons, Nat.zero_mul, Nat.zero_add, List.getElem?_append_left (by omega)]
      rfl
    | succ j =>
      have h := ih j (by simpa using hj)
      rw [List.flatMap_cons, List.getElem?_append_right (by omega), hc, show (j + 1) * 6 + i - 6 = j * 6 + i by omega]
      exact h
theorem ndCells_length (l : List Nd) : (l.flatMap Nd.cells).length = l.length * 6 := by
  induction l with
  | nil => rfl
  | cons a t ih => rw [List.flatMap_cons, List.length_append, ih, List.length_cons]; show 6 + _ = _; omega
theorem nds_oneCell (l : List Nd) : ∀ u ∈ l.flatMap Nd.cells, u.oneCell' = true := by
  intro u hu
  obtain ⟨v, _, hv⟩ := List.mem_flatMap.1 hu
  exact nd_oneCell v u hv
theorem RdNds.of_owns {E : TypeId} {base : Nat} {w : World} {v : Value} {l : List Nd} (h : w.ownsRow base E 6 v l.length (l.flatMap Nd.cells)) : RdNds w v l := by
  rcases h.2 with ⟨h1, h2⟩ | ⟨g, cap, cur, rfl, h2, h3, h4, h5, _⟩
  · obtain rfl := List.length_eq_zero_iff.1 h2
    rw [h1]
    exact RdNds.nil w
  · have hc := fun i u hu => h.cells (g := g) rfl i u hu
    refine ⟨_, cap, rfl, h4, h5, fun j hj => ⟨g, 0, rfl, fun i y hy => ?_⟩⟩
    have hi : i < 6 := (List.getElem?_eq_some_iff.1 hy).1
    have c := hc _ _ ((ndCells l j hj i hi).trans hy)
    rw [add_at] at c
    rw [Nat.add_assoc]
    exact c
/-- append(l, m..) of a row that reads as nodes. -/
theorem wpList_append_nds {ops : Array Oper} {rest : List Oper} {o : Oper} {a : Act} {Q : Exit → Act → World → Prop} {w : World} (hgd : o.guard = none) (s x : Operand)
    (ho : o.op = .call { callee := .builtin .append, args := #[s, x], argTypes := #[23, 23] })
    (base : Nat) (v : Value) (ps : List Nd) (u : Value) (l : List Nd) (hs : a.eval s = v) (hown : w.ownsRow base 38 6 v ps.length (ps.flatMap Nd.cells))
    (hx : a.eval x = u) (hu : RdNds w u l) (hn : l = [] → u = .slice none 0 0 ∨ ∃ ad cap, u = .slice (some ad) 0 cap) (hp : ps.length ≤ 100000000) (hl : l.length ≤ 100000000) (hbase : base ≤ w.heap.size)
    (h : ∀ v' w', w'.ownsRow base 38 6 v' (ps ++ l).length ((ps ++ l).flatMap Nd.cells) → Below base w w' → wpList Tryz.prog ops Q rest (a.put o.dst v') w') :
    wpList Tryz.prog ops Q (o :: rest) a w := by
  obtain ⟨i0, hi, hz0, hz1, hz2⟩ := info_parts Tryz.info_node
  have hu0 := hu
  obtain ⟨ao, cap, rfl, h1, h2, hc⟩ := hu
  rcases ao with _ | ad
  · have hl0 : l = [] := by
      cases l with
      | nil => rfl
      | cons b t =>
        obtain ⟨g, off, e, _⟩ := hc 0 (by simp)
        cases e
    subst hl0
    have hcap : cap = 0 := by
      rcases hn rfl with h | ⟨_, _, h⟩
      · simp only [Value.slice.injEq] at h; exact h.2.2
      · cases h
    subst hcap
    refine wpList_append_own_none hgd s x 23 ho base 38 i0 6 Tryz.underlying23 hi v ps.length _ hs hown hx ?_
    refine h v w ?_ (Below.refl _ _)
    rw [List.append_nil]
    exact hown
  · have hcells : ∀ i y, (l.flatMap Nd.cells)[i]? = some y → w.cell? (ad.add i) = some y := by
      intro i y hy
      have hil : i < (l.flatMap Nd.cells).length := (List.getElem?_eq_some_iff.1 hy).1
      rw [ndCells_length] at hil
      have hj : i / 6 < l.length := by omega
      obtain ⟨g, off, e, hc'⟩ := hc (i / 6) hj
      have hyy := hy
      have ei : i = i / 6 * 6 + i % 6 := by omega
      rw [ei] at hyy
      rw [ndCells l (i / 6) hj (i % 6) (Nat.mod_lt _ (by decide))] at hyy
      simp only [Option.some.injEq] at e
      subst e
      rw [add_at, show off + i = off + i / 6 * 6 + i % 6 by omega]
      exact hc' _ _ hyy
    refine wpList_append_own _ hgd s x 23 ho base 38 i0 _ 6 56 Tryz.underlying23 hi hz0 hz1 hz2 rfl (by decide) v ps.length _ hs hown ad l.length cap (l.flatMap Nd.cells) hx (ndCells_length l) hcells (nds_oneCell l) (by unfold maxLen; omega) (by omega) hbase fun v' w' k1 k2 _ => h v' w' ?_ ?_
    · rw [List.length_append, List.flatMap_append]
      exact k1
    · exact (Below.refl base w).grown k2 hbase (fun b hb => (hown.lt b hb).1)
/-- Nodes that may come in, whose texts are no longer than that. -/
def FitN (n : Nat) (l : List Nd) : Prop := ∀ x ∈ l, x.fits ∧ x.v.s.length ≤ n
/-- Values that may come in, whose texts are no longer than that. -/
def FitV (n : Nat) (l : List V) : Prop := ∀ x ∈ l, x.fits ∧ x.s.length ≤ n
theorem empty_nds (w : World) : (w.alloc (.cells #[] 38)).ownsRow w.heap.size 38 6 (.slice (some ⟨w.heap.size, 0, none⟩) 0 0) 0 [] := World.ownsRow_made w #[] 0 (Nat.le_refl _) (by simp [maxLen]) rfl

end Go.Proofs.YtfnmcdjfdhdlmaaGreatDoor
