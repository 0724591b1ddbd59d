/-
  A statement that leaves its order open, walked once: operations that only read are taken as soon as they may come up; what stands between them (a call, a making of memory) comes up alone, and leaves what was there as it was. Over any program.
-/
import Derived.OrdersHeld
import Derived.Deep.Quiet
import Derived.WalkKit
namespace Go.Proofs.Ytlbilmmjcfiokaa
open Go.RowKit

/-- A world that stands to w as R says. -/
structure Later (R : World → World → Prop) (w : World) where
  val : World
  ext : R w val

/-- What is kept from a world to a later one. -/
structure Keeps (R : World → World → Prop) : Prop where
  refl : ∀ w, R w w
  trans : ∀ a b c, R a b → R b c → R a c

/-- w' has all that w has, as w has it. -/
def Ext (w w' : World) : Prop := Below w.heap.size w w'
/-- Nothing is asked. -/
def Free (_ _ : World) : Prop := True

theorem ext_trans {a b c : World} (h : Below a.heap.size a b) (k : Below b.heap.size b c) : Below a.heap.size a c := h.trans (k.mono h.size)

theorem Ext.keeps : Keeps Ext := ⟨fun _ => Below.refl _ _, fun _ _ _ => ext_trans⟩
theorem Free.keeps : Keeps Free := ⟨fun _ => trivial, fun _ _ _ _ _ => trivial⟩

instance (w : World) : Inhabited (Later Ext w) := ⟨⟨w, Below.refl _ _⟩⟩
instance (w : World) : Inhabited (Later Free w) := ⟨⟨w, trivial⟩⟩

theorem Ext.drew (w : World) : Ext w w.drew := (Below.refl _ _).drew
theorem Ext.trans {a b c : World} (h : Ext a b) (k : Ext b c) : Ext a c := Ext.keeps.trans _ _ _ h k

/-- An operation that yields a value, if it comes through at all. -/
def calmOp : Op → Bool
  | .move _ | .assign _ | .pick .. | .load .. | .build .. | .nilCheck _ | .binOp .. | .unOp .. | .convert .. | .slice .. | .fieldAddr .. | .field .. | .indexAddr .. | .index .. | .extract .. | .makeInterface .. | .typeAssert .. | .lookup .. | .sliceToArrayPointer .. => true
  | .call c => match c.callee with | .builtin .len | .builtin .cap | .builtin .min | .builtin .max => true | _ => false
  | _ => false

theorem value_of_bind {P : Program} {s : Sem Value} {w w' : World} {n : Next} (h : (do pure (Next.value (← s)) : Sem Next).run P w = .ok n w') : ∃ v, n = .value v := by
  simp only [Sem.run_bind] at h
  cases hs : s.run P w with
  | ok a w1 => rw [hs] at h; simp [Result.andThen] at h; exact ⟨a, h.1.symm⟩
  | halt x w1 => rw [hs] at h; simp [Result.andThen] at h

theorem value_of_andThen {r : Result Value} {w' : World} {n : Next} (h : (r.andThen fun a w' => Result.ok (Next.value a) w') = .ok n w') : ∃ v, n = .value v := by
  cases r with
  | ok a w1 => simp [Result.andThen] at h; exact ⟨a, h.1.symm⟩
  | halt x w1 => simp [Result.andThen] at h

theorem nilDeref_not {P : Program} {w w' : World} {n : Next} (h : (runtimePanic .nilDeref : Sem Next).run P w = .ok n w') : False := by
  unfold runtimePanic at h
  simp [goPanic, go_sem] at h

theorem calm_value {P : Program} {ρ : Operand → Value} {o : Oper} {w w' : World} {n : Next} (hc : calmOp o.op = true) (h : (execOp ρ o).run P w = .ok n w') : ∃ v, n = .value v := by
  obtain ⟨dst, op, type, pos, after, guard⟩ := o
  cases op <;> simp only [calmOp, Bool.false_eq_true] at hc <;> simp only [execOp] at h
  case move => simp at h; exact ⟨_, h.1.symm⟩
  case assign => simp at h; exact ⟨_, h.1.symm⟩
  case pick c a b =>
    simp only [Sem.run_bind] at h
    cases hs : (asBool (ρ c)).run P w with
    | ok t w1 => rw [hs] at h; simp [Result.andThen] at h; exact ⟨_, h.1.symm⟩
    | halt x w1 => rw [hs] at h; simp [Result.andThen] at h
  case nilCheck x =>
    split at h
    · exact (nilDeref_not h).elim
    · exact (nilDeref_not h).elim
    · exact (nilDeref_not h).elim
    · split at h
      · exact (nilDeref_not h).elim
      · simp only [Sem.run_bind] at h
        simp [Result.andThen] at h
        split at h
        · split at h
          · simp at h; exact ⟨_, h.1.symm⟩
          · simp [go_sem] at h
        · cases h
      · simp at h; exact ⟨_, h.1.symm⟩
    · simp at h; exact ⟨_, h.1.symm⟩
  case call c =>
    obtain ⟨callee, args, argTypes⟩ := c
    cases callee with
    | builtin b => cases b <;> simp only [Bool.false_eq_true] at hc <;> (simp only [resolve, invoke, builtin, Sem.run_bind, Sem.run_pure, Result.andThen_ok] at h; exact value_of_andThen h)
    | _ => simp at hc
  all_goals exact value_of_bind h

/-- The operations of these numbers. -/
def pickOps (ops : Array Oper) (l : List Nat) : List Oper := l.map fun i => (ops[i]?).getD default

/-- A part of a plan: operations that only read, then one that may make memory. -/
def wpSegs (P : Program) (R : World → World → Prop) (ops : Array Oper) (Q : Exit → Act → World → Prop) : List (List Oper × Option Oper) → Act → World → Prop
  | [], a, w => Q .normal a w
  | (qs, none) :: rest, a, w => wpQuiet P ops (fun w' => ∃ p : Later R w, w' = p.val) (fun a' => wpSegs P R ops Q rest a' w) qs a
  | (qs, some o) :: rest, a, w => wpQuiet P ops (fun w' => ∃ p : Later R w, w' = p.val) (fun a' => wpList P ops (Exit.then (fun a'' w'' => R w w'' ∧ wpSegs P R ops Q rest a'' w'') Q) [o] a' w) qs a

def quietOk (ops : Array Oper) : List Nat → Array Bool → Bool
  | [], _ => true
  | i :: qs, listed => (Region.ready .any ops listed).contains i && Region.free .any ops listed i && ((ops[i]?).map fun o => calmOp o.op).getD false && quietOk ops qs (listed.setIfInBounds i true)

def marked : List Nat → Array Bool → Array Bool
  | [], listed => listed
  | i :: qs, listed => marked qs (listed.setIfInBounds i true)

def segsOk (ops : Array Oper) : List (List Nat × Option Nat) → Array Bool → Bool
  | [], listed => (Region.ready .any ops listed).isEmpty
  | (qs, none) :: rest, listed => quietOk ops qs listed && segsOk ops rest (marked qs listed)
  | (qs, some i) :: rest, listed => quietOk ops qs listed && (Region.ready .any ops (marked qs listed) == [i]) && segsOk ops rest ((marked qs listed).setIfInBounds i true)

def segsCount : List (List Nat × Option Nat) → Nat
  | [] => 0
  | (qs, none) :: rest => qs.length + segsCount rest
  | (qs, some _) :: rest => qs.length + (segsCount rest + 1)

def pickSegs (ops : Array Oper) (l : List (List Nat × Option Nat)) : List (List Oper × Option Oper) := l.map fun s => (pickOps ops s.1, s.2.map fun i => (ops[i]?).getD default)

section
variable {P : Program} {ops : Array Oper} {Q : Exit → Act → World → Prop} {R : World → World → Prop}

theorem wpAnyH_weaken {S S' : World → Prop} (h : ∀ w, S w → S' w) : ∀ (fuel : Nat) (listed : Array Bool) (a : Act) (w : World), wpAnyH P .any ops Q S fuel listed a w → wpAnyH P .any ops Q S' fuel listed a w
  | 0, _, _, _, hh => hh
  | fuel + 1, _, _, _, hh => ⟨hh.1, fun i hi => wpOp_mono (fun _ _ h' => ⟨h _ h'.1, wpAnyH_weaken h fuel _ _ _ h'.2⟩) (hh.2 i hi)⟩

theorem quietSeg (hR : Keeps R) (hs : Region.noSelect ops = true) (hQ : ∀ c (a : Act) (i : Nat) (o : Oper) v w, ops[i]? = some o → Q (.panic c) (a.put o.dst v) w → Q (.panic c) a w) {K : Act → Prop} {w : World} (fuel : Nat) :
    ∀ (qs : List Nat) (listed : Array Bool) (a : Act), quietOk ops qs listed = true → wpQuiet P ops (fun w' => ∃ p : Later R w, w' = p.val) K (pickOps ops qs) a →
      (∀ a', K a' → wpAnyH P .any ops Q (R w) fuel (marked qs listed) a' w) → wpAnyH P .any ops Q (R w) (qs.length + fuel) listed a w
  | [], listed, a, _, h, hk => by
    simp only [List.length_nil, Nat.zero_add]
    exact hk a h
  | i :: qs, listed, a, hok, h, hk => by
    simp only [quietOk, Bool.and_eq_true] at hok
    obtain ⟨⟨⟨hr, hf⟩, hc⟩, hrest⟩ := hok
    cases ho : ops[i]? with
    | none => simp [ho] at hc
    | some o =>
      simp only [ho, Option.map_some, Option.getD_some] at hc
      have hp : pickOps ops (i :: qs) = o :: pickOps ops qs := by simp [pickOps, ho]
      rw [hp] at h
      simp only [wpQuiet] at h
      rw [List.length_cons, Nat.add_right_comm]
      by_cases hw : Region.wanted o (yielded ops a.tmps) = true
      · rw [if_pos hw] at h
        obtain ⟨v, hv, hnext⟩ := h
        refine wpAnyH_take (v := v) ho hs hf hr (fun c a' w' hq => hQ c _ _ _ _ w' ho hq) (.inl ⟨hw, fun w' hw' => ?_⟩) (hR.refl _) (quietSeg hR hs hQ fuel qs _ _ hrest hnext hk)
        have hq := hv w' ⟨⟨w', hw'⟩, rfl⟩
        unfold Oper.quietAt at hq
        generalize hrun : (execOp a.eval o).run P w' = r at hq
        cases r with
        | ok n w1 =>
          obtain ⟨u, rfl⟩ := calm_value hc hrun
          simp only [Oper.quietUpon] at hq
          rw [hq.1, hq.2]
        | halt x w1 => simp only [Oper.quietUpon] at hq
      · rw [if_neg hw] at h
        exact wpAnyH_take (v := undef) ho hs hf hr (fun c a' w' hq => hQ c _ _ _ _ w' ho hq) (.inr ⟨by simpa using hw, rfl⟩) (hR.refl _) (quietSeg hR hs hQ fuel qs _ _ hrest h hk)

theorem wpOp_of_list {i : Nat} {o : Oper} {K : Act → World → Prop} {a : Act} {w : World} (ho : ops[i]? = some o) (h : wpList P ops (Exit.then K Q) [o] a w) : wpOp P ops Q i K a w := by
  unfold wpOp
  simp only [ho]
  simp only [wpList] at h
  split
  · rename_i hw
    rw [if_pos hw] at h
    rcases h with h | ⟨h1, h2⟩
    · refine .inl ?_
      unfold Oper.wp at *
      generalize (execOp a.eval o).run P w = r at *
      cases r with
      | ok n w' =>
        cases n <;> simp only [Oper.upon] at h ⊢ <;> first
          | exact h
          | exact Calls.mono h (fun e w'' he => by cases e <;> exact he)
          | exact Rows.mono h (fun _ _ he => he)
      | halt x w' => cases x <;> simp only [Oper.upon] at h ⊢ <;> exact h
    · exact .inr ⟨h1, h2⟩
  · rename_i hw
    rw [if_neg hw] at h
    exact h

theorem segs_sound (hR : Keeps R) (hs : Region.noSelect ops = true) (hQ : ∀ c (a : Act) (i : Nat) (o : Oper) v w, ops[i]? = some o → Q (.panic c) (a.put o.dst v) w → Q (.panic c) a w) :
    ∀ (segs : List (List Nat × Option Nat)) (listed : Array Bool) (a : Act) (w : World) (fuel : Nat), segsOk ops segs listed = true → wpSegs P R ops Q (pickSegs ops segs) a w →
      wpAnyH P .any ops Q (R w) (segsCount segs + fuel) listed a w
  | [], listed, a, w, fuel, hok, h => wpAnyH_done (by simpa [segsOk] using hok) h _
  | (qs, none) :: rest, listed, a, w, fuel, hok, h => by
    simp only [segsOk, Bool.and_eq_true] at hok
    rw [segsCount, Nat.add_assoc]
    exact quietSeg hR hs hQ _ qs listed a hok.1 h fun a' h' => segs_sound hR hs hQ rest _ _ _ fuel hok.2 h'
  | (qs, some i) :: rest, listed, a, w, fuel, hok, h => by
    simp only [segsOk, Bool.and_eq_true, beq_iff_eq] at hok
    obtain ⟨⟨h1, h2⟩, h3⟩ := hok
    have hi : ∃ o, ops[i]? = some o := by
      have : i ∈ Region.ready .any ops (marked qs listed) := by rw [h2]; simp
      obtain ⟨_, o, ho, _⟩ := mem_ready.1 this
      exact ⟨o, ho⟩
    obtain ⟨o, ho⟩ := hi
    have hp : pickSegs ops ((qs, some i) :: rest) = (pickOps ops qs, some o) :: pickSegs ops rest := by simp [pickSegs, ho]
    rw [hp] at h
    rw [segsCount, Nat.add_assoc, Nat.add_right_comm]
    refine quietSeg hR hs hQ _ qs listed a h1 h fun a' h' => wpAnyH_all h2 (by simp) fun j hj => ?_
    obtain rfl : j = i := by simpa using hj
    refine wpOp_mono (fun a'' w'' h'' => ⟨h''.1, ?_⟩) (wpOp_of_list ho h')
    exact wpAnyH_weaken (fun w3 h3' => hR.trans _ _ _ h''.1 h3') _ _ _ _ (segs_sound hR hs hQ rest _ _ _ fuel h3 h''.2)

/-- A region that draws its order, by a plan: R says what each call (and each making of memory) keeps. -/
theorem wp_region_segs {id : Nat} {a : Act} {w : World} {l : List Oper} (R : World → World → Prop) (hR : Keeps R) (segs : List (List Nat × Option Nat)) (hm : P.follows .mixedOrders = true)
    (hok : (Region.noSelect l.toArray && segsOk l.toArray segs (Array.replicate l.length false) && (segsCount segs == l.length)) = true)
    {Q : Exit → Act → World → Prop} (hQ : ∀ c (a a' : Act) w, a.defers = a'.defers → Q (.panic c) a w → Q (.panic c) a' w)
    (h : wpSegs P R l.toArray Q (pickSegs l.toArray segs) a w.drew) : (Code.region id l.toArray true).wp P Q a w := by
  simp only [Bool.and_eq_true, beq_iff_eq] at hok
  have := segs_sound (P := P) hR hok.1.1 (fun c a i o v w _ hq => hQ c _ a w (by cases o.dst <;> rfl) hq) segs (Array.replicate l.length false) a w.drew 0 hok.1.2 h
  rw [hok.2, Nat.add_zero] at this
  refine wp_region_held (S := R w.drew) hm ?_
  simpa using this

theorem wpSegs_nil {a : Act} {w : World} (h : Q .normal a w) : wpSegs P R ops Q [] a w := h
theorem wpSegs_none {qs : List Oper} {rest : List (List Oper × Option Oper)} {a : Act} {w : World}
    (h : wpQuiet P ops (fun w' => ∃ p : Later R w, w' = p.val) (fun a' => wpSegs P R ops Q rest a' w) qs a) : wpSegs P R ops Q ((qs, none) :: rest) a w := h
theorem wpSegs_some {qs : List Oper} {o : Oper} {rest : List (List Oper × Option Oper)} {a : Act} {w : World}
    (h : ∀ K : Act → World → Prop, (∀ a w, wpSegs P R ops Q rest a w → K a w) → wpQuiet P ops (fun w' => ∃ p : Later R w, w' = p.val) (fun a' => wpList P ops (Exit.then (fun a'' w'' => R w w'' ∧ K a'' w'') Q) [o] a' w) qs a) : wpSegs P R ops Q ((qs, some o) :: rest) a w :=
  h _ fun _ _ hh => hh

end

end Go.Proofs.Ytlbilmmjcfiokaa
