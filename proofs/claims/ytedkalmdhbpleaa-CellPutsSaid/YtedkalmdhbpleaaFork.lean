/-
  A statement that leaves its order open where two makings of memory may come up in either order: reads first, then the fork, then a plan for each. Over any program.
-/
import Derived.Test.YtedkalmdhbpleaaCan
namespace Go.Proofs.Ytedkalmdhbpleaa
open Go.RowKit

section
variable {P : Program} {ops : Array Oper} {Q : Exit → Act → World → Prop} {R : World → World → Prop}

def wpFork (P : Program) (R : World → World → Prop) (ops : Array Oper) (Q : Exit → Act → World → Prop) (qs : List Oper) (o1 : Oper) (s1 : List (List Oper × Option Oper)) (o2 : Oper) (s2 : List (List Oper × Option Oper)) (a : Act) (w : World) : Prop :=
  wpQuiet P ops (fun w' => ∃ p : Later R w, w' = p.val) (fun a' =>
    wpList P ops (Exit.then (fun a'' w'' => R w w'' ∧ wpSegs P R ops Q s1 a'' w'') Q) [o1] a' w ∧
    wpList P ops (Exit.then (fun a'' w'' => R w w'' ∧ wpSegs P R ops Q s2 a'' w'') Q) [o2] a' w) qs a

theorem wp_region_fork {id : Nat} {a : Act} {w : World} {l : List Oper} (R : World → World → Prop) (hR : Keeps R) (qs : List Nat) (i j : Nat) (s1 s2 : List (List Nat × Option Nat)) (hm : P.follows .mixedOrders = true)
    (hok : (Region.noSelect l.toArray && quietOk l.toArray qs (Array.replicate l.length false) && (Region.ready .any l.toArray (marked qs (Array.replicate l.length false)) == [i, j]) &&
      segsOk l.toArray s1 ((marked qs (Array.replicate l.length false)).setIfInBounds i true) && segsOk l.toArray s2 ((marked qs (Array.replicate l.length false)).setIfInBounds j true) &&
      (qs.length + (segsCount s1 + 1) == l.length) && (qs.length + (segsCount s2 + 1) == l.length)) = true)
    {Q : Exit → Act → World → Prop} (hQ : ∀ c (a a' : Act) w, a.defers = a'.defers → Q (.panic c) a w → Q (.panic c) a' w)
    (h : wpFork P R l.toArray Q (pickOps l.toArray qs) ((l.toArray[i]?).getD default) (pickSegs l.toArray s1) ((l.toArray[j]?).getD default) (pickSegs l.toArray s2) a w.drew) : (Code.region id l.toArray true).wp P Q a w := by
  simp only [Bool.and_eq_true, beq_iff_eq] at hok
  obtain ⟨⟨⟨⟨⟨⟨h1, h2⟩, h3⟩, h4⟩, h5⟩, h6⟩, h7⟩ := hok
  have hQ' : ∀ c (a : Act) (i : Nat) (o : Oper) v w, l.toArray[i]? = some o → Q (.panic c) (a.put o.dst v) w → Q (.panic c) a w := fun c a i o v w _ hq => hQ c _ a w (by cases o.dst <;> rfl) hq
  have hget : ∀ k, k ∈ [i, j] → ∃ o, l.toArray[k]? = some o := fun k hk => by
    rw [← h3] at hk
    obtain ⟨_, o, ho, _⟩ := mem_ready.1 hk
    exact ⟨o, ho⟩
  have hsz : segsCount s2 = segsCount s1 := by omega
  have key : wpAnyH P .any l.toArray Q (R w.drew) (qs.length + (segsCount s1 + 1)) (Array.replicate l.length false) a w.drew := by
    refine quietSeg hR h1 hQ' (segsCount s1 + 1) qs _ a h2 h fun a' h' => ?_
    refine wpAnyH_all h3 (by simp) fun k hk => ?_
    obtain ⟨o, ho⟩ := hget k hk
    rcases List.mem_cons.1 hk with rfl | hk2
    · rw [ho] at h'
      refine wpOp_mono (fun a'' w'' h'' => ⟨h''.1, ?_⟩) (wpOp_of_list ho h'.1)
      have := segs_sound hR h1 hQ' s1 _ a'' w'' 0 h4 h''.2
      rw [Nat.add_zero] at this
      exact wpAnyH_weaken (fun w3 h3' => hR.trans _ _ _ h''.1 h3') _ _ _ _ this
    · obtain rfl : k = j := by simpa using hk2
      rw [ho] at h'
      refine wpOp_mono (fun a'' w'' h'' => ⟨h''.1, ?_⟩) (wpOp_of_list ho h'.2)
      have := segs_sound hR h1 hQ' s2 _ a'' w'' 0 h5 h''.2
      rw [Nat.add_zero, hsz] at this
      exact wpAnyH_weaken (fun w3 h3' => hR.trans _ _ _ h''.1 h3') _ _ _ _ this
  rw [h6] at key
  refine wp_region_held (S := R w.drew) hm ?_
  simpa using key

theorem wpFork_intro {qs : List Oper} {o1 o2 : Oper} {s1 s2 : List (List Oper × Option Oper)} {a : Act} {w : World}
    (h : ∀ K1 K2 : Act → World → Prop, (∀ a w, wpSegs P R ops Q s1 a w → K1 a w) → (∀ a w, wpSegs P R ops Q s2 a w → K2 a w) →
      wpQuiet P ops (fun w' => ∃ p : Later R w, w' = p.val) (fun a' =>
        wpList P ops (Exit.then (fun a'' w'' => R w w'' ∧ K1 a'' w'') Q) [o1] a' w ∧ wpList P ops (Exit.then (fun a'' w'' => R w w'' ∧ K2 a'' w'') Q) [o2] a' w) qs a) : wpFork P R ops Q qs o1 s1 o2 s2 a w :=
  h _ _ (fun _ _ hh => hh) (fun _ _ hh => hh)

end

end Go.Proofs.Ytedkalmdhbpleaa
