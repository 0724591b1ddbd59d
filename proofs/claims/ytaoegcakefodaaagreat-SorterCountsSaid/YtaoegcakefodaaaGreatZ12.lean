/-
  Texts of this proof, merged.
-/
import Derived.ArgAppend
import Derived.Test.YtaoegcakefodaaaGreatZ1
import Derived.Test.YtaoegcakefodaaaGreatZ2
import Derived.Test.YtaoegcakefodaaaGreatZ3
import Derived.Test.YtaoegcakefodaaaGreatZ4
import Derived.Test.YtaoegcakefodaaaGreatZ5
import Derived.Test.YtaoegcakefodaaaGreatZ7
import Derived.Test.YtaoegcakefodaaaGreatZ9
import Derived.Test.YtaoegcakefodaaaGreatZ10
import Derived.Test.YtaoegcakefodaaaGreatZ11
namespace Go.Proofs.YtaoegcakefodaaaGreat
open Go.RowKit
def OwnT (base : Nat) (e : TypeId) (w : World) (v : Value) (xs : List Value) : Prop :=
  (xs = [] ∧ (v = .slice none 0 0 ∨ ∃ x, v = .slice (some x) 0 0)) ∨ ∃ g off cap pre, v = .slice (some ⟨g, off, none⟩) xs.length cap ∧ pre.length = off ∧ w.ownsRow base e 1 (.slice (some ⟨g, 0, none⟩) (off + xs.length) (off + cap)) (off + xs.length) (pre ++ xs)
theorem OwnT.nil (base : Nat) (e : TypeId) (w : World) : OwnT base e w (.slice none 0 0) [] := .inl ⟨rfl, .inl rfl⟩
theorem OwnT.of_owns {base : Nat} {e : TypeId} {w : World} {v : Value} {n : Nat} {xs : List Value} (h : w.ownsRow base e 1 v n xs) : OwnT base e w v xs := by
  have hl : xs.length = n := by simpa using h.1
  rcases h.2 with ⟨h1, h2⟩ | ⟨g, cap, cur, h1, -⟩
  · subst h1
    exact .inl ⟨List.eq_nil_of_length_eq_zero (by omega), .inl rfl⟩
  · subst h1
    refine .inr ⟨g, 0, cap, [], by rw [hl], rfl, ?_⟩
    rw [Nat.zero_add, Nat.zero_add, hl, List.nil_append]
    exact h
theorem OwnT.shape {base : Nat} {e : TypeId} {w : World} {v : Value} {xs : List Value} (h : OwnT base e w v xs) : ∃ a c, v = .slice a xs.length c ∧ xs.length ≤ c ∧ c ≤ maxLen := by
  rcases h with ⟨rfl, rfl | ⟨x, rfl⟩⟩ | ⟨g, off, cap, pre, rfl, -, h⟩
  · exact ⟨none, 0, rfl, Nat.le_refl _, by simp [maxLen]⟩
  · exact ⟨_, 0, rfl, Nat.le_refl _, by simp [maxLen]⟩
  · obtain ⟨a, c, e1, e2, e3⟩ := own_shapeP h
    simp only [Value.slice.injEq] at e1
    obtain ⟨-, -, e4⟩ := e1
    exact ⟨_, cap, rfl, by omega, by omega⟩
theorem OwnT.rd {base : Nat} {e : TypeId} {w : World} {v : Value} {xs : List Value} (h : OwnT base e w v xs) : RdV w v xs := by
  rcases h with ⟨rfl, rfl | ⟨x, rfl⟩⟩ | ⟨g, off, cap, pre, rfl, hp, h⟩
  · exact .inl ⟨rfl, rfl⟩
  · exact .inr ⟨x, 0, rfl, Nat.le_refl _, by simp [maxLen], fun i u hu => by simp at hu⟩
  · obtain ⟨a, c, e1, e2, e3⟩ := own_shapeP h
    simp only [Value.slice.injEq] at e1
    obtain ⟨-, -, e4⟩ := e1
    refine .inr ⟨_, cap, rfl, by omega, by omega, fun i u hu => ?_⟩
    have := h.cells (g := g) rfl (off + i) u (by rw [List.getElem?_append_right (by omega), hp, Nat.add_sub_cancel_left]; exact hu)
    rw [add_at, Nat.zero_add] at this
    rw [add_at]
    exact this
theorem OwnT.lt {base : Nat} {e : TypeId} {w : World} {v : Value} {xs : List Value} (h : OwnT base e w v xs) (hne : xs ≠ []) {k : Nat} (hk : v.ownBlock = some k) : base ≤ k ∧ k < w.heap.size := by
  rcases h with ⟨h, -⟩ | ⟨g, off, cap, pre, rfl, -, h⟩
  · exact absurd h hne
  · exact h.lt k hk
theorem OwnT.onlyS {X : Nat → Prop} {base : Nat} {e : TypeId} {w w' : World} {v : Value} {xs : List Value} (h : OwnT base e w v xs) (ho : OnlyS X w w') (hx : xs ≠ [] → ∀ k, v.ownBlock = some k → ¬ X k) (hx2 : ∀ k, X k → k < base ∨ v.ownBlock ≠ some k) : OwnT base e w' v xs := by
  rcases h with h | ⟨g, off, cap, pre, rfl, hp, h⟩
  · exact .inl h
  · refine .inr ⟨g, off, cap, pre, rfl, hp, h.1, ?_⟩
    rcases h.2 with ⟨h1, -⟩ | ⟨g', cap', cur, h1, h2, h3, h4⟩
    · cases h1
    · simp only [Value.slice.injEq, Option.some.injEq, Addr.mk.injEq, and_true, true_and] at h1
      obtain ⟨rfl, rfl⟩ := h1
      refine .inr ⟨g, _, cur, rfl, h2, (ho.block g (Array.getElem?_eq_some_iff.1 h3).1 (fun hX => ?_)).trans h3, h4⟩
      rcases hx2 g hX with h5 | h5
      · omega
      · exact h5 rfl
theorem OwnT.ext {base : Nat} {e : TypeId} {w w' : World} {v : Value} {xs : List Value} (h : OwnT base e w v xs) (hx : Ext w w') : OwnT base e w' v xs := h.onlyS (X := fun _ => False) (OnlyS.of_ext hx) (fun _ _ _ h => h) (fun _ h => h.elim)
theorem OwnT.beside {base : Nat} {e : TypeId} {w w' : World} {v : Value} {xs : List Value} {X : Nat → Prop} (h : OwnT base e w v xs) (ho : OnlyS X w w') (hx : ∀ k, X k → k < base ∨ v.ownBlock ≠ some k) : OwnT base e w' v xs :=
  h.onlyS ho (fun hne k hk hX => by
    rcases hx k hX with h1 | h1
    · have := (h.lt hne hk).1; omega
    · exact h1 hk) hx
theorem OwnT.dropG {P : Program} {t e : TypeId} (ht : P.underlying t = some (.slice e)) {i0 : TypeInfo} (hi : P.info? e = some i0) (hz : i0.size = 1) {base : Nat} {w : World} {ao : Option Addr} {N cap : Nat} {xs : List Value} (h : OwnT base e w (.slice ao N cap) xs) (k : Nat) (hk : k ≤ N) :
    ∃ a c, OwnT base e w (.slice a (N - k) c) (xs.drop k) ∧ ((Value.slice a (N - k) c).ownBlock = (Value.slice ao N cap).ownBlock) ∧ ∀ W, (Instr.slice t (.slice ao N cap) (some (.int .i64 (k : Int))) none none).run P W = .ok (.slice a (N - k) c) W := by
  rcases h with ⟨rfl, h1 | ⟨x, h1⟩⟩ | ⟨g, off, cap', pre, h1, hp, h⟩
  · simp only [Value.slice.injEq] at h1
    obtain ⟨rfl, rfl, rfl⟩ := h1
    obtain rfl : k = 0 := by omega
    refine ⟨none, 0, .inl ⟨rfl, .inl rfl⟩, rfl, fun W => ?_⟩
    simp [Instr.slice, Instr.sliceBounds, Instr.sliceBound, run_underlying ht, sizeOf, typeInfo, hi, go_sem]
  · simp only [Value.slice.injEq] at h1
    obtain ⟨rfl, rfl, rfl⟩ := h1
    obtain rfl : k = 0 := by omega
    refine ⟨some x, 0, .inl ⟨rfl, .inr ⟨x, rfl⟩⟩, rfl, fun W => ?_⟩
    simp [Instr.slice, Instr.sliceBounds, Instr.sliceBound, run_underlying ht, sizeOf, typeInfo, hi, go_sem]
  · simp only [Value.slice.injEq] at h1
    obtain ⟨rfl, rfl, rfl⟩ := h1
    obtain ⟨a, c, e1, e2, e3⟩ := own_shapeP h
    simp only [Value.slice.injEq] at e1
    obtain ⟨-, -, e4⟩ := e1
    have hlo : (k : Int) ≤ (xs.length : Int) := by omega
    have hcap : xs.length ≤ cap := by omega
    by_cases hc : cap = k
    · have hd : xs.drop k = [] := List.drop_eq_nil_of_le (by omega)
      refine ⟨some ⟨g, off, none⟩, cap - k, ?_, rfl, fun W => ?_⟩
      · rw [hd, show xs.length - k = 0 by omega, show cap - k = 0 by omega]
        exact .inl ⟨rfl, .inr ⟨_, rfl⟩⟩
      · subst hc
        simp [Instr.slice, Instr.sliceBounds, Instr.sliceBound, run_underlying ht, sizeOf, typeInfo, hi, go_sem, hk]
    · refine ⟨some ⟨g, off + k, none⟩, cap - k, ?_, rfl, fun W => ?_⟩
      · refine .inr ⟨g, off + k, cap - k, pre ++ xs.take k, by rw [List.length_drop], by rw [List.length_append, List.length_take, hp]; omega, ?_⟩
        rw [List.length_drop, List.append_assoc, List.take_append_drop, show off + k + (xs.length - k) = off + xs.length by omega, show off + k + (cap - k) = off + cap by omega]
        exact h
      · simp [Instr.slice, Instr.sliceBounds, Instr.sliceBound, run_underlying ht, sizeOf, typeInfo, hi, hz, go_sem, hk, hc, add_at]
theorem OwnT.drop {P : Program} {t e : TypeId} (ht : P.underlying t = some (.slice e)) {i0 : TypeInfo} (hi : P.info? e = some i0) (hz : i0.size = 1) {base : Nat} {w : World} {ao : Option Addr} {N cap : Nat} {xs : List Value} (h : OwnT base e w (.slice ao N cap) xs) (k : Nat) (hk : k ≤ N) :
    ∃ a c, OwnT base e w (.slice a (N - k) c) (xs.drop k) ∧ (xs.drop k ≠ [] → (Value.slice a (N - k) c).ownBlock = (Value.slice ao N cap).ownBlock) ∧ ∀ W, (Instr.slice t (.slice ao N cap) (some (.int .i64 (k : Int))) none none).run P W = .ok (.slice a (N - k) c) W := by
  obtain ⟨a, c, h1, h2, h3⟩ := h.dropG ht hi hz k hk
  exact ⟨a, c, h1, fun _ => h2, h3⟩
theorem OwnT.beside_row {base base' n g : Nat} {e e' : TypeId} (hne : e ≠ e') {w w' : World} {v u : Value} {xs ys : List Value} (h : OwnT base e w v xs) (h' : w.ownsRow base' e' 1 u n ys) (hg : g < base) (ho : OnlyS (fun j => j = g ∨ u.ownBlock = some j) w w') : OwnT base e w' v xs := by
  rcases h with h | ⟨g0, off, cap, pre, rfl, hp, h⟩
  · exact .inl h
  · have hap : ∀ k, (Value.slice (some ⟨g0, 0, none⟩) (off + xs.length) (off + cap)).ownBlock = some k → u.ownBlock ≠ some k := fun k h1 h2 => by
      obtain ⟨c, fz, e1⟩ := Lib.ownsRow_kind h k h1
      obtain ⟨c', fz', e2⟩ := Lib.ownsRow_kind h' k h2
      rw [e1] at e2
      injection e2 with e3
      injection e3 with e4 e5
      exact absurd e5 hne
    refine .inr ⟨g0, off, cap, pre, rfl, hp, h.1, ?_⟩
    have hg0 := (h.lt g0 rfl).1
    rcases h.2 with ⟨h1, -⟩ | ⟨g', cap', cur, h1, h2, h3, h4⟩
    · cases h1
    · simp only [Value.slice.injEq, Option.some.injEq, Addr.mk.injEq, and_true, true_and] at h1
      obtain ⟨rfl, rfl⟩ := h1
      refine .inr ⟨g0, _, cur, rfl, h2, (ho.block g0 (Array.getElem?_eq_some_iff.1 h3).1 (fun hX => ?_)).trans h3, h4⟩
      rcases hX with h5 | h5
      · omega
      · exact hap g0 rfl h5
theorem wpList_append_tailG {P : Program} {w : World} {ops : Array Oper} {rest : List Oper} {o : Oper} {a : Act} {Q : Exit → Act → World → Prop} (hgd : o.guard = none) (s x : Operand) (t : TypeId)
    (ho : o.op = .call { callee := .builtin .append, args := #[s, x], argTypes := #[t, t] })
    (base : Nat) (e : TypeId) (i : TypeInfo) (z : Value) (bytes : Nat) (ht : P.underlying t = some (.slice e)) (hi : P.info? e = some i) (hz : i.zero = some z)
    (hsize : i.size = 1) (hby : i.bytes = bytes) (hzs : z.cells.size = 1)
    (v : Value) (xs : List Value) (hs : a.eval s = v) (hown : OwnT base e w v xs)
    (u : Value) (news : List Value) (hx : a.eval x = u) (hu : RdV w u news) (h1 : ∀ u ∈ news, u.oneCell' = true)
    (h63 : xs.length + news.length ≤ maxLen) (hbytes : (xs.length + news.length) * bytes ≤ 140737488355328) (hbase : base ≤ w.heap.size)
    (h : ∀ v' w', OwnT base e w' v' (xs ++ news) → (∀ k, v'.ownBlock = some k → v.ownBlock = some k ∨ (w.heap.size ≤ k ∧ k < w'.heap.size)) → Below base w w' → OnlyS (fun k => v.ownBlock = some k ∧ base ≤ k) w w' → (∀ (b' n' : Nat) (e' : TypeId) (u' : Value) (ys : List Value), e ≠ e' → w.ownsRow b' e' 1 u' n' ys → w'.ownsRow b' e' 1 u' n' ys) → wpList P ops Q rest (a.put o.dst v') w') : wpList P ops Q (o :: rest) a w := by
  rcases hu with ⟨rfl, rfl⟩ | ⟨ad, cap0, rfl, h2, h3, h4⟩
  · obtain ⟨va, vc, rfl, hv1, hv2⟩ := hown.shape
    refine wpList_plain hgd fun K hK => ?_
    have hrun : (Builtin.append_ #[t, t] o.type #[.slice va xs.length vc, .slice none 0 0]).run P w = .ok (.slice va xs.length vc) w := by
      cases va <;> simp [Builtin.append_, run_underlying ht, sizeOf, typeInfo, hi, Builtin.lenOf, Builtin.firstCells, hv1, storeCells]
    unfold Oper.wp
    simp [execOp, ho, resolve, invoke, builtin, hs, hx, hrun, Result.andThen]
    exact hK _ _ (h _ w (by rw [List.append_nil]; exact hown) (fun _ hk => .inl hk) (Below.refl _ _) (OnlyS.refl _ _) (fun _ _ _ _ _ _ h => h))
  · rcases hown with ⟨rfl, hv⟩ | ⟨g, off, cap, pre, rfl, hp, hown⟩
    · by_cases hnil : news = []
      · subst hnil
        refine wpList_plain hgd fun K hK => ?_
        have hrun : (Builtin.append_ #[t, t] o.type #[v, .slice (some ad) ([] : List Value).length cap0]).run P w = .ok v w := by
          have hfc := run_firstCells_some (P := P) w i.size 0 ad 0 cap0 [] (by simp) (fun j u hj => by simp at hj)
          rcases hv with rfl | ⟨x0, rfl⟩ <;> simp [Builtin.append_, run_underlying ht, sizeOf, typeInfo, hi, Builtin.lenOf, hfc, storeCells]
        unfold Oper.wp
        simp [execOp, ho, resolve, invoke, builtin, hs, hx] at hrun ⊢
        simp [hrun, Result.andThen]
        exact hK _ _ (h _ w (.inl ⟨rfl, hv⟩) (fun _ hk => .inl hk) (Below.refl _ _) (OnlyS.refl _ _) (fun _ _ _ _ _ _ h => h))
      · have hpos : 0 < news.length := List.length_pos_iff.2 hnil
        obtain ⟨ao, hao, hnone⟩ : ∃ ao, v = .slice ao 0 0 ∧ (ao = none → (0 : Nat) = 0 ∧ (0 : Nat) = 0) := by
          rcases hv with rfl | ⟨x0, rfl⟩
          · exact ⟨none, rfl, fun _ => ⟨rfl, rfl⟩⟩
          · exact ⟨some x0, rfl, fun _ => ⟨rfl, rfl⟩⟩
        subst hao
        refine wpList_append_grows _ hgd s x t ho e i z 1 bytes ht hi hz hsize hby hzs (by decide) ao 0 0 [] hs hnone rfl (fun b hb j u hu => by simp at hu) ad news.length cap0 news hx (by rw [Nat.mul_one]) h4 h1 (by omega) (by simpa using h63) (by simpa using hbytes) fun v' w' h5 h6 => ?_
        rw [List.nil_append] at h5
        refine h v' w' (.of_owns (owns_base h5 hbase)) (fun k hk => .inr (h5.lt k hk)) ⟨h6.os, h6.tape, h6.output, by have := h6.size; omega, fun k hk => h6.block k (by omega) (by simp)⟩ ⟨h6.os, h6.tape, h6.output, h6.size, fun k hk _ => h6.block k hk (by simp)⟩ ?_
        exact fun b' n' e' u' ys _ h' => owns_extS h' ⟨h6.os, h6.tape, h6.output, h6.size, fun k hk => h6.block k hk (by simp)⟩
    · obtain ⟨a0, c0, e1, e2, e3⟩ := own_shapeP hown
      simp only [Value.slice.injEq] at e1
      obtain ⟨-, -, e4⟩ := e1
      have hown2 := hown.2
      rcases hown2 with ⟨e5, -⟩ | ⟨g', cap', cur, e5, hb, hg, hnc, hcm, hcs, htake⟩
      · cases e5
      simp only [Value.slice.injEq, Option.some.injEq, Addr.mk.injEq, and_true, true_and] at e5
      obtain ⟨rfl, rfl⟩ := e5
      refine wpList_append_arg w hgd s x t ho e i z 1 bytes ht hi hz hsize hby hzs (by decide) g off xs.length cap xs hs (by rw [Nat.mul_one]) (fun j u hj => ?_) ad news.length cap0 news hx (by rw [Nat.mul_one]) h4 h1 (fun hroom j hj => ⟨?_, hown.frozenAt _⟩) h63 hbytes (fun hroom => ?_) (fun hgrow v' w' h5 h6 => ?_)
      · have := hown.cells (g := g) rfl (off + j) u (by rw [List.getElem?_append_right (by omega), hp, Nat.add_sub_cancel_left]; exact hj)
        rw [add_at, Nat.zero_add] at this
        exact this
      · rw [cell_of_row w g _ cur e (0, 0) hg, Array.getElem?_eq_getElem (by rw [hcs]; omega)]
        rfl
      · obtain ⟨w', hr1, hr2, hr3⟩ := run_append_fits (P := P) w base t o.type e i 1 ht hi hsize g (off + xs.length) (off + cap) (pre ++ xs) hown ad news.length cap0 news (by rw [Nat.mul_one]) h4 h1 (by omega)
        have hr4 := run_append_room_cells (P := P) w t o.type e i ht hi g 0 (off + xs.length) (off + cap) ad news.length cap0 news (by rw [hsize, Nat.mul_one]) h4 h1 (by omega) (fun j hj => by
          rw [hsize, Nat.mul_one, Nat.zero_add, cell_of_row w g _ cur e (0, 0) hg, Array.getElem?_eq_getElem (by rw [hcs]; omega)]
          rfl) (fun j hj => hown.frozenAt _)
        rw [hr1, hsize, Nat.mul_one, Nat.zero_add] at hr4
        have hw : w' = w.setCells g (off + xs.length) news := by
          injection hr4
        rw [Nat.mul_one, ← hw]
        have hgl := (hown.lt g rfl).2
        refine h _ w' (.inr ⟨g, off, cap, pre, by rw [List.length_append], hp, ?_⟩) (fun _ hk => .inl hk) ⟨hr3.os, hr3.tape, hr3.output, by have := hr3.size; omega, fun k hk => hr3.block k (by omega) (fun e => ?_)⟩ ⟨hr3.os, hr3.tape, hr3.output, hr3.size, fun k hk hX => hr3.block k hk (fun e => hX ?_)⟩ (fun b' n' e' u' ys hne h' => ?_)
        · rw [List.length_append, ← List.append_assoc, ← Nat.add_assoc]
          exact hr2
        · have := Option.some.inj e
          omega
        · have := Option.some.inj e
          subst this
          exact ⟨rfl, hb⟩
        · refine owns_beside h' (v := .slice (some ⟨g, 0, none⟩) 0 0) ⟨hr3.os, hr3.tape, hr3.output, hr3.size, fun k hk hX => hr3.block k hk (fun e => hX ?_)⟩ (fun k hk1 hk2 => ?_)
          · have := Option.some.inj e
            subst this
            rfl
          · obtain ⟨c3, fz3, e6⟩ := Lib.ownsRow_kind h' k hk1
            have hkg : g = k := Option.some.inj hk2
            subst hkg
            obtain ⟨c4, fz4, e7⟩ := Lib.ownsRow_kind hown g rfl
            rw [e6] at e7
            injection e7 with e8
            injection e8 with e9 e10
            exact absurd e10.symm hne
      · refine h v' w' (.of_owns (owns_base h5 hbase)) (fun k hk => .inr (h5.lt k hk)) ⟨h6.os, h6.tape, h6.output, by have := h6.size; omega, fun k hk => h6.block k (by omega) (by simp)⟩ ⟨h6.os, h6.tape, h6.output, h6.size, fun k hk _ => h6.block k hk (by simp)⟩ ?_
        exact fun b' n' e' u' ys _ h' => owns_extS h' ⟨h6.os, h6.tape, h6.output, h6.size, fun k hk => h6.block k hk (by simp)⟩
end Go.Proofs.YtaoegcakefodaaaGreat

namespace Go.Proofs.YtaoegcakefodaaaGreat
open Go.RowKit Go.BigFrame
theorem intsN_ivs (ids : List Nat) : (intsN ids).map (Value.int .i64) = ivs ids := by
  unfold intsN
  rw [List.map_map]
  rfl
structure WrT (L : Nat) (w : World) (f p : Nat) (W : Wr17) (vi vr : Value) : Prop where
  blk : Blk w f [.pointer (if W.on = true then some ⟨p, 0, none⟩ else none), vi, vr, .int .i64 W.many] 145
  ids : w.ownsRow (f + 1) 3 1 vi W.ids.length (ivs W.ids)
  rest : OwnT (f + 1) 5 w vr (W.buf.map bv)
  rin : ∀ k, vr.ownBlock = some k → f < k ∧ k < w.heap.size
  few : W.ids.length ≤ L ∧ ∀ i ∈ W.ids, i ≤ 4096
  off : W.on = false → W = offW ∧ vi = .slice none 0 0 ∧ vr = .slice none 0 0
def ownW (f : Nat) (vi vr : Value) (b : Nat) : Prop := b = f ∨ vi.ownBlock = some b ∨ vr.ownBlock = some b
theorem Blk.onlyS {X : Nat → Prop} {w w' : World} {b : Nat} {xs : List Value} {t : TypeId} (h : Blk w b xs t) (ho : OnlyS X w w') (hx : ¬ X b) : Blk w' b xs t := (ho.block b h.lt hx).trans h
theorem OnlyS.set0 (g i : Nat) (w : World) (u : Value) : OnlyS (fun b => b = g) w (w.setCell ⟨g, i, none⟩ u) := OnlyS.of_onlyP (OnlyP.set g i w u) rfl
theorem OnlyS.step {X : Nat → Prop} {a b c : World} (h : OnlyS X a b) (k : OnlyS X b c) : OnlyS X a c := OnlyS.trans h k fun _ _ h => h
theorem WrT.keep {L : Nat} {X : Nat → Prop} {w w' : World} {f p : Nat} {W : Wr17} {vi vr : Value} (h : WrT L w f p W vi vr) (ho : OnlyS X w w') (hx : ∀ b, X b → ¬ ownW f vi vr b) : WrT L w' f p W vi vr :=
  ⟨h.blk.onlyS ho (fun hX => hx f hX (.inl rfl)), own_onlyS h.ids ho (fun k hk hX => hx k hX (.inr (.inl hk))), h.rest.beside ho (fun k hX => .inr fun e => hx k hX (.inr (.inr e))), fun k hk => ⟨(h.rin k hk).1, Nat.lt_of_lt_of_le (h.rin k hk).2 ho.size⟩, h.few, h.off⟩
theorem WrT.lt {L : Nat} {w : World} {f p : Nat} {W : Wr17} {vi vr : Value} (h : WrT L w f p W vi vr) {b : Nat} (hb : ownW f vi vr b) : b < w.heap.size := by
  rcases hb with rfl | hb | hb
  · exact h.blk.lt
  · exact (h.ids.lt b hb).2
  · exact (h.rin b hb).2
theorem WrT.ended (w : World) (f p : Nat) (h : Blk w f [.pointer none, .slice none 0 0, .slice none 0 0, .int .i64 0] 145) : WrT 0 w f p offW (.slice none 0 0) (.slice none 0 0) :=
  ⟨h, owns_nil _ _ _ _, OwnT.nil _ _ _, fun _ hk => (by cases hk), ⟨Nat.le_refl _, fun i hi => by simp [offW] at hi⟩, fun _ => ⟨rfl, rfl, rfl⟩⟩
set_option maxRecDepth 100000 in
theorem pEnded17_any (f : Nat) (o : Option Addr) (w : World) (h : w.cell? ⟨f, 0, none⟩ = some (.pointer o)) : Calls Tryz.prog 102 #[.pointer (some ⟨f, 0, none⟩)] w fun e w' => e = .returned (.bool (decide (o = none))) ∧ w = w' := by
  cases o with
  | none =>
    go_enter Tryz.func102, Tryz.ntmps102
    go_wp2_with fail
    go_ret
    exact ⟨rfl, rfl⟩
  | some a =>
    go_enter Tryz.func102, Tryz.ntmps102
    go_wp2_with fail
    go_ret
    exact ⟨rfl, rfl⟩
set_option maxRecDepth 100000 in
set_option maxHeartbeats 1000000 in
theorem pCancelT_any (L : Nat) (O : Nat → Prop) (f p : Nat) (s : St) (W : Wr17) (vi vr : Value) (w : World) (h : PSto O w p s) (hok : okS s) (hT : WrT L w f p W vi vr) (hL : L ≤ 1000000000000) (hox : ∀ b, O b → ¬ ownW f vi vr b) :
    Calls Tryz.prog 83 #[.pointer (some ⟨f, 0, none⟩)] w fun e w' => ∃ O', e = .returned (.tuple #[]) ∧ PSto O' w' p (cancelW s W) ∧ Blk w' f [.pointer none, .slice none 0 0, .slice none 0 0, .int .i64 0] 145 ∧
      OnlyS (fun b => O b ∨ b = f) w w' ∧ (∀ b, O' b → O b ∨ w.heap.size ≤ b) ∧ ¬ O' f := by
  have HF := Lib.hid hT.blk.lt
  have HEN := Lib.hid (pEnded17_any f _ w (hT.blk.cell 0 _ rfl))
  cases hon : W.on with
  | false =>
    obtain ⟨hoff, rfl, rfl⟩ := hT.off hon
    subst hoff
    have HB := Lib.hid hT.blk
    have HP := Lib.hid h
    have HO := Lib.hid (fun h2 => hox f h2 (.inl rfl))
    simp only [hon, if_false, Bool.false_eq_true] at HEN HB
    clear hT h hok hox hon
    go_enter Tryz.func83, Tryz.ntmps83
    go_wp2_with fail
    refine HEN.out.mono ?_
    rintro e w' ⟨rfl, rfl⟩
    go_wp2_with fail
    refine bodyPost_ret (v := .tuple #[]) (results_none rfl _ _ _) rfl ?_
    exact ⟨O, rfl, HP.out, HB.out, OnlyS.refl _ _, fun b hb => .inl hb, HO.out⟩
  | true =>
    simp only [hon, if_true] at HEN
    have HCW := Lib.hid (show cancelW s W = dropS s (intsN W.ids) by unfold cancelW; rw [if_neg (by simp [hon])])
    have hrd : RdV w.drew vi ((intsN W.ids).map (Value.int .i64)) := by rw [intsN_ivs]; exact (RdV.of_owns hT.ids).mono (Ext.drew w)
    have HDROP := Lib.hid (pDrop_any (w := w.drew) vi (intsN W.ids) (h.keep (fun b hb => rfl) (Nat.le_refl _)) hok hrd (fun _ k hk hO => hox k hO (.inr (.inl hk))) (by
      have := hT.few.1
      unfold intsN
      rw [List.length_map]
      omega) (fun i hi => by
      obtain ⟨q, hq, rfl⟩ := List.mem_map.1 hi
      have := hT.few.2 q hq
      omega))
    have HB := Lib.hid hT.blk
    have HO := Lib.hid (show ¬ O f from fun h2 => hox f h2 (.inl rfl))
    have HBZ := Lib.hid (fun z : Later (OnlyS O) w.drew => (HB.out.ext (Ext.drew w)).onlyS z.ext HO.out)
    have a0 : ∀ z : Later (OnlyS O) w.drew, z.val.cell? ⟨f, 0, none⟩ = some (.pointer (some ⟨p, 0, none⟩)) := fun z => by
      have := (HBZ.out z).cell 0 _ rfl
      rwa [hon] at this
    have a1 : ∀ z : Later (OnlyS O) w.drew, z.val.cell? ⟨f, 1, none⟩ = some vi := fun z => (HBZ.out z).cell 1 _ rfl
    clear hT h hok hox hrd
    go_enter Tryz.func83, Tryz.ntmps83
    go_wp2_with fail
    refine HEN.out.mono ?_
    rintro e w' ⟨rfl, rfl⟩
    go_wp2_with fail
    refine wp_region_segs (OnlyS O) (OnlyS.keeps O) [([0, 1, 2, 3, 4, 5, 6, 7], some 8)] (by kernel_rfl) (by kernel_rfl) (fun c a a' w e h => (by exact ⟨e ▸ h.1, h.2⟩)) ?_
    simp only [pickSegs, pickOps, List.map_cons, List.map_nil, Option.map_some, Option.getD_some, List.getElem?_toArray, List.getElem?_cons_zero, List.getElem?_cons_succ]
    refine wpSegs_some fun K hK => ?_
    repeat go_big_quiet_step (fail)
    refine wpQuiet_nil ?_
    clear a0 a1
    go_wp2_with fail
    refine HDROP.out.mono ?_
    rintro e w2 ⟨rfl, O2, k1, k2, k3, -⟩
    have HP2 := Lib.hid k1
    have HO2 := Lib.hid k2
    have HN2 := Lib.hid k3
    clear k1 k2 k3
    go_wp2_with fail
    refine ⟨HO2.out, hK _ _ (wpSegs_nil ?_)⟩
    clear hK K
    have HB2 := Lib.hid ((HB.out.ext (Ext.drew w)).onlyS HO2.out HO.out)
    have c0 := HB2.out.cell 0 _ rfl
    have c1 := HB2.out.cell 1 _ rfl
    have c2 := HB2.out.cell 2 _ rfl
    have c3 := HB2.out.cell 3 _ rfl
    have fz := HB2.out.free
    go_wp2_with fail
    go_end0
    have hs := (OnlyS.set0 f 0 w2 (.pointer none)).step (OnlyS.set0 f 1 _ (.slice none 0 0)) |>.step (OnlyS.set0 f 2 _ (.slice none 0 0)) |>.step (OnlyS.set0 f 3 _ (.int .i64 0))
    have hO2f : ¬ O2 f := fun h2 => by
      rcases HN2.out f h2 with h3 | h3
      · exact HO.out h3
      · have := HF.out
        exact absurd h3 (Nat.not_le.2 this)
    refine ⟨O2, rfl, ?_, ?_, ?_, HN2.out, hO2f⟩
    · rw [HCW.out]
      exact HP2.out.onlyS hs (fun b hb e => hO2f (e ▸ hb))
    · exact (((HB2.out.set 0 _).set 1 _).set 2 _).set 3 _
    · exact OnlyS.trans (OnlyS.of_ext (Ext.drew w)) (OnlyS.trans (HO2.out.mono fun b _ hb => .inl hb) (hs.mono fun b _ hb => .inr hb) fun _ _ h => h) fun _ _ h => h
end Go.Proofs.YtaoegcakefodaaaGreat

namespace Go.Proofs.YtaoegcakefodaaaGreat
open Go.RowKit Go.BigFrame
structure Duo (O X : Nat → Prop) (w : World) (O' X' : Nat → Prop) (w' : World) : Prop where
  only : OnlyS (fun b => O b ∨ X b) w w'
  os : ∀ b, O' b → O b ∨ w.heap.size ≤ b
  xs : ∀ b, X' b → X b ∨ w.heap.size ≤ b
  apart : ∀ b, O' b → ¬ X' b
theorem Duo.trans {O X O1 X1 O2 X2 : Nat → Prop} {w w1 w2 : World} (h : Duo O X w O1 X1 w1) (k : Duo O1 X1 w1 O2 X2 w2) : Duo O X w O2 X2 w2 := by
  refine ⟨OnlyS.trans h.only k.only fun i hi hb => ?_, fun b hb => ?_, fun b hb => ?_, k.apart⟩
  · rcases hb with hb | hb
    · rcases h.os i hb with h1 | h1
      · exact .inl h1
      · omega
    · rcases h.xs i hb with h1 | h1
      · exact .inr h1
      · omega
  · rcases k.os b hb with h1 | h1
    · exact h.os b h1
    · exact .inr (Nat.le_trans h.only.size h1)
  · rcases k.xs b hb with h1 | h1
    · exact h.xs b h1
    · exact .inr (Nat.le_trans h.only.size h1)
theorem Duo.refl {O X : Nat → Prop} (w : World) (h : ∀ b, O b → ¬ X b) : Duo O X w O X w := ⟨OnlyS.refl _ _, fun _ hb => .inl hb, fun _ hb => .inl hb, h⟩
theorem Duo.ext {O X : Nat → Prop} {w w' : World} (hx : Ext w w') (h : ∀ b, O b → ¬ X b) : Duo O X w O X w' := ⟨OnlyS.of_ext hx, fun _ hb => .inl hb, fun _ hb => .inl hb, h⟩
set_option maxRecDepth 100000 in
set_option maxHeartbeats 1000000 in
theorem pLayNone17_any (L : Nat) (O : Nat → Prop) (f p n : Nat) (s : St) (W : Wr17) (vi vr : Value) (w : World) (h : PSto O w p s) (hok : okS s) (hT : WrT L w f p W vi vr) (hon : W.on = true) (hL : L ≤ 1000000000000) (hox : ∀ b, O b → ¬ ownW f vi vr b) (hfull : ¬ 1 + usedS s ≤ s.length) :
    Calls Tryz.prog 107 #[.pointer (some ⟨f, 0, none⟩), .int .i64 n] w fun e w' => ∃ O', e = .returned (.int .i64 4) ∧ PSto O' w' p (dropS s (intsN W.ids)) ∧ Blk w' f [.pointer none, .slice none 0 0, .slice none 0 0, .int .i64 0] 145 ∧
      OnlyS (fun b => O b ∨ b = f) w w' ∧ (∀ b, O' b → O b ∨ w.heap.size ≤ b) ∧ ¬ O' f := by
  have hus : usedS s ≤ s.length := List.countP_le_length
  have hal : allocS s 1 = (([], 4), s) := by
    have := storeK_full (s := s) (b := []) (k := 0) (by omega)
    rwa [(storeK_zero s []).2] at this
  have HAL := Lib.hid (pAlloc_any (w := w) 1 h hok (by omega))
  rw [hal] at HAL
  have c0 := hT.blk.cell 0 _ rfl
  rw [if_pos hon] at c0
  have HC := Lib.hid (fun (O1 : Nat → Prop) (w1 : World) (h1 : PSto O1 w1 p s) (hT1 : WrT L w1 f p W vi vr) (hx1 : ∀ b, O1 b → ¬ ownW f vi vr b) => pCancelT_any L O1 f p s W vi vr w1 h1 hok hT1 hL hx1)
  have HCW := Lib.hid (show cancelW s W = dropS s (intsN W.ids) by unfold cancelW; rw [if_neg (by simp [hon])])
  rw [HCW.out] at HC
  have HT := Lib.hid hT
  have HOX := Lib.hid hox
  clear h hok hT hox hal hus hfull
  go_enter Tryz.func107, Tryz.ntmps107
  go_wp2_with fail
  refine HAL.out.mono ?_
  rintro e w1 ⟨v, rfl, -, O1, k1, k2, k3, -⟩
  have HO1 := Lib.hid k2
  have HN1 := Lib.hid k3
  have HT1 := Lib.hid (HT.out.keep k2 HOX.out)
  have hx1 : ∀ b, O1 b → ¬ ownW f vi vr b := fun b hb hw => by
    rcases k3 b hb with h1 | h1
    · exact HOX.out b h1 hw
    · have := HT.out.lt hw
      omega
  have HCC := Lib.hid (HC.out O1 w1 k1 HT1.out hx1)
  clear k1 k2 k3 hx1 c0
  go_wp2_with fail
  refine HCC.out.mono ?_
  rintro e w2 ⟨O2, rfl, h1, h2, h3, h4, h5⟩
  have H1 := Lib.hid h1
  have H2 := Lib.hid h2
  have H3 := Lib.hid h3
  have H4 := Lib.hid h4
  have H5 := Lib.hid h5
  clear h1 h2 h3 h4 h5
  go_wp2_with fail
  go_ret
  refine ⟨O2, rfl, H1.out, H2.out, OnlyS.trans (HO1.out.mono fun b _ hb => .inl hb) H3.out fun i hi hb => ?_, fun b hb => ?_, H5.out⟩
  · rcases hb with hb | hb
    · rcases HN1.out i hb with h1 | h1
      · exact .inl h1
      · omega
    · exact .inr hb
  · rcases H4.out b hb with h1 | h1
    · exact HN1.out b h1
    · exact .inr (Nat.le_trans HO1.out.size h1)
set_option maxRecDepth 100000 in
set_option maxHeartbeats 2000000 in
theorem pLayRoom17_any (L : Nat) (O : Nat → Prop) (f p n : Nat) (s : St) (W : Wr17) (vi vr : Value) (w : World) (h : PSto O w p s) (hok : okS s) (hT : WrT L w f p W vi vr) (hon : W.on = true) (hL : L ≤ 1000000000000) (hox : ∀ b, O b → ¬ ownW f vi vr b) (hroom : 1 + usedS s ≤ s.length)
    (hn : n ≤ W.buf.length) (hn2 : W.buf.take n = W.buf.take 56) (hbl : W.buf.length ≤ 10000000) :
    Calls Tryz.prog 107 #[.pointer (some ⟨f, 0, none⟩), .int .i64 n] w fun e w' => ∃ O' vi' vr', e = .returned (.int .i64 0) ∧ PSto O' w' p (storeK s W.buf 1) ∧ WrT (L + 1) w' f p ⟨W.ids ++ idsK s 1, W.buf.drop n, W.many, true⟩ vi' vr' ∧ Duo O (ownW f vi vr) w O' (ownW f vi' vr') w' := by
  obtain ⟨x, hids, hxl, hal, hwr⟩ := storeK_step (s := s) (b := W.buf) (k := 0) (by omega)
  rw [(storeK_zero s W.buf).2] at hal hwr
  rw [(storeK_zero s []).1, List.nil_append] at hids
  rw [Nat.mul_zero, List.drop_zero] at hwr
  have HAL := Lib.hid (pAlloc_any (w := w) 1 h hok (by omega))
  rw [hal] at HAL
  have hx4 : x ≤ 4096 := by have := hok.1; omega
  have HK := Lib.hid (show okS (s.set x (some (layP x []))) from hok.set x _ (fun q hq => by cases hq; exact layP_length x [] (by simp)))
  have c0 := hT.blk.cell 0 _ rfl
  rw [if_pos hon] at c0
  obtain ⟨ra, rc, rfl, hr1, hr2⟩ := hT.rest.shape
  rw [List.length_map] at hr1 hT hox ⊢
  obtain ⟨i1, hi1, hy0, hy1, hy2⟩ := info_parts Tryz.info_int8
  obtain ⟨i5, hi5, hz0, hz1, hz2⟩ := info_parts Tryz.info5
  unfold maxLen at hr2
  obtain ⟨ra', rc', hdo, hdb, hdr⟩ := hT.rest.dropG Tryz.underlying36 hi5 hz1 n hn
  have HT := Lib.hid hT
  have HOX := Lib.hid hox
  have HN := Lib.hid hn2
  have HWR := Lib.hid hwr
  have HIDS := Lib.hid hids
  clear h hok hT hox hal hwr hn2 hids
  go_enter Tryz.func107, Tryz.ntmps107
  go_wp2_with fail
  refine HAL.out.mono ?_
  rintro e w1 ⟨v, rfl, ho1, O1, k1, k2, k3, k4⟩
  obtain ⟨g, gc, rfl, hg1, hg2, hg3, hg4⟩ := owns_shape ho1 (by simp)
  have HG := Lib.hid ho1
  have HP1 := Lib.hid k1
  have HO1 := Lib.hid k2
  have HN1 := Lib.hid k3
  have HGO := Lib.hid (k4 g rfl)
  have HT1 := Lib.hid (HT.out.keep k2 HOX.out)
  have HX1 := Lib.hid (show ∀ b, O1 b → ¬ ownW f vi (.slice ra W.buf.length rc) b from fun b hb hw => by
    rcases k3 b hb with h1 | h1
    · exact HOX.out b h1 hw
    · have := HT.out.lt hw
      omega)
  have hgw : ¬ ownW f vi (.slice ra W.buf.length rc) g := fun hw => by have := HT.out.lt hw; omega
  have HB1 := Lib.hid HT1.out.blk
  have hnc : n ≤ rc := by omega
  have HZ := Lib.hid (fun z : Later (OnlyS O1) w1.drew => (HB1.out.ext (Ext.drew w1)).onlyS z.ext (fun hh => HX1.out f hh (.inl rfl)))
  have a0 : ∀ z : Later (OnlyS O1) w1.drew, z.val.cell? ⟨f, 0, none⟩ = some (.pointer (some ⟨p, 0, none⟩)) := fun z => by
    have := (HZ.out z).cell 0 _ rfl
    rwa [if_pos hon] at this
  have a2 : ∀ z : Later (OnlyS O1) w1.drew, z.val.cell? ⟨f, 2, none⟩ = some (.slice ra W.buf.length rc) := fun z => (HZ.out z).cell 2 _ rfl
  have HGC := Lib.hid (fun z : Later (OnlyS O1) w1.drew => (own_onlyS (owns_extS HG.out (Ext.drew w1)) z.ext (fun k hk hO => by cases hk; exact HGO.out hO)))
  have a5 : ∀ z : Later (OnlyS O1) w1.drew, z.val.cell? ⟨g, 0, none⟩ = some (.int .i64 x) := fun z => by
    have := (HGC.out z).cells (g := g) rfl 0 (iv x) rfl
    exact this
  have HWT := Lib.hid (pWrite_any (w := w1.drew) (x : Int) (.slice ra n rc) (W.buf.take n) (HP1.out.keep (fun b hb => rfl) (Nat.le_refl _)) HK.out (by omega) (by
    have h3 := rdV_first (HT1.out.rest.ext (Ext.drew w1)).rd n hn
    rw [← List.map_take] at h3
    exact h3) (fun _ k hk hO => HX1.out k hO (.inr (.inr (by cases ra <;> exact hk)))) (by rw [HN.out, List.length_take]; omega))
  rw [HN.out, HWR.out] at HWT
  clear k1 k2 k3 k4 ho1 c0
  go_wp2_with fail
  refine wp_region_segs (OnlyS O1) (OnlyS.keeps O1) [([0, 1, 2, 3, 4, 5, 6, 7, 8, 9, 10, 11, 12], some 13)] (by kernel_rfl) (by kernel_rfl) (fun c a a' w e h => (by exact ⟨e ▸ h.1, h.2⟩)) ?_
  simp only [pickSegs, pickOps, List.map_cons, List.map_nil, Option.map_some, Option.getD_some, List.getElem?_toArray, List.getElem?_cons_zero, List.getElem?_cons_succ]
  refine wpSegs_some fun K hK => ?_
  repeat go_big_quiet_step (fail)
  refine wpQuiet_nil ?_
  clear a0 a2 a5
  go_wp2_with fail
  refine HWT.out.mono ?_
  rintro e w2 ⟨rfl, O2, k1, k2, k3, -⟩
  have HP2 := Lib.hid k1
  have HO2 := Lib.hid k2
  have HN2 := Lib.hid k3
  clear k1 k2 k3
  go_wp2_with fail
  refine ⟨HO2.out, hK _ _ (wpSegs_nil ?_)⟩
  clear hK K
  have HT2 := Lib.hid ((HT1.out.keep (OnlyS.of_ext (X := fun _ => False) (Ext.drew w1)) (fun _ h => h.elim)).keep HO2.out HX1.out)
  have b1 := HT2.out.blk.cell 1 _ rfl
  have HG2 := Lib.hid (own_onlyS (owns_extS HG.out (Ext.drew w1)) HO2.out (fun k hk hO => by cases hk; exact HGO.out hO))
  have HSF := Lib.hid (show f + 1 ≤ w2.heap.size from HT2.out.blk.lt)
  have HLI := Lib.hid HT2.out.few.1
  have HON2 := Lib.hid hon
  clear hon
  go_wp2_with (at_builtin; go_must (refine wpList_append_apart _ rfl (.tmp 38) (.tmp 39) 48 rfl (f + 1) 3 i1 (.int .i64 0) 1 8 Tryz.underlying48 hi1 hy0 hy1 hy2 rfl (by decide) _ _ _ rfl HT2.out.ids ⟨g, 0, none⟩ 1 gc [iv x] rfl rfl (HG2.out.cells (g := g) rfl) (by simp [iv, Value.oneCell']) (by have := HLI.out; unfold maxLen; omega) (by have := HLI.out; omega) HSF.out ?_); intro v5 w5 h5a h5b h5c; obtain ⟨va, vc, rfl, -, -⟩ := own_shapeP h5a; have HO5 := Lib.hid h5a; have HG5 := Lib.hid h5b; have HE5 := Lib.hid h5c; have HB5 := Lib.hid (HT2.out.blk.onlyS (OnlyS.of_grown h5b) (fun e => by have := (HT2.out.ids.lt f e).1; omega)); have d1 := HB5.out.cell 1 _ rfl; have d2 := HB5.out.cell 2 _ rfl; have fz := HB5.out.free; clear h5a h5b h5c b1)
  go_ret
  have HW := HT.out
  have hs : OnlyS (fun b => b = f) w5 ((w5.setCell ⟨f, 1, none⟩ (.slice va (W.ids.length + 1) vc)).setCell ⟨f, 2, none⟩ (.slice ra' (W.buf.length - n) rc')) := (OnlyS.set0 f 1 _ _).step (OnlyS.set0 f 2 _ _)
  have ho25 := OnlyS.of_grown HG5.out
  have ho26 : OnlyS (fun b => b = f ∨ vi.ownBlock = some b) w2 ((w5.setCell ⟨f, 1, none⟩ (.slice va (W.ids.length + 1) vc)).setCell ⟨f, 2, none⟩ (.slice ra' (W.buf.length - n) rc')) := (ho25.mono fun _ _ h => .inr h).step (hs.mono fun _ _ h => .inl h)
  have hO2 : ∀ b, O2 b → O b ∨ w.heap.size ≤ b := fun b hb => by
    rcases HN2.out b hb with h1 | h1
    · exact HN1.out b h1
    · exact .inr (Nat.le_trans HO1.out.size h1)
  have hX2 : ∀ b, O2 b → ¬ ownW f vi (.slice ra W.buf.length rc) b := fun b hb hw => by
    rcases hO2 b hb with h1 | h1
    · exact HOX.out b h1 hw
    · have := HW.lt hw
      omega
  have ho02 : OnlyS O w w2 := OnlyS.trans HO1.out (OnlyS.trans (OnlyS.of_ext (Ext.drew w1)) HO2.out fun _ _ h => h) fun i hi hb => by
    rcases HN1.out i hb with h1 | h1
    · exact h1
    · omega
  have hsz2 := ho02.size
  have hvr : ∀ k, (Value.slice ra' (W.buf.length - n) rc').ownBlock = some k → (Value.slice ra W.buf.length rc).ownBlock = some k := fun k hk => hdb ▸ hk
  refine ⟨O2, .slice va (W.ids.length + 1) vc, .slice ra' (W.buf.length - n) rc', rfl, HP2.out.onlyS ho26 (fun b hb hx => ?_), ⟨?_, ?_, ?_, ?_, ?_, fun h => by cases h⟩, ?_⟩
  · rcases hx with rfl | hx
    · exact hX2 b hb (.inl rfl)
    · exact hX2 b hb (.inr (.inl hx))
  · have h1 := (HB5.out.set 1 (.slice va (W.ids.length + 1) vc)).set 2 (.slice ra' (W.buf.length - n) rc')
    rw [if_pos HON2.out] at h1
    exact h1
  · have h1 := own_onlyS HO5.out hs (fun k hk e => by have := (HO5.out.lt k hk).1; omega)
    rw [show idsK s 1 = [x] from HIDS.out, List.length_append]
    unfold ivs at h1 ⊢
    rw [List.map_append]
    exact h1
  · have h1 := hdo.beside ho02 (fun k hk => .inr fun e => HOX.out k hk (.inr (.inr (hvr k e))))
    have h2 := h1.beside_row (by decide) HT2.out.ids (Nat.lt_succ_self f) ho26
    rw [List.map_drop]
    exact h2
  · intro k hk
    have h1 := HW.rin k (hvr k hk)
    exact ⟨h1.1, Nat.lt_of_lt_of_le h1.2 (Nat.le_trans hsz2 ho26.size)⟩
  · rw [show idsK s 1 = [x] from HIDS.out]
    refine ⟨by rw [List.length_append]; have := HW.few.1; simp; omega, fun i hi => ?_⟩
    rcases List.mem_append.1 hi with h1 | h1
    · exact HW.few.2 i h1
    · rw [List.mem_singleton] at h1
      omega
  · refine ⟨OnlyS.trans (ho02.mono fun _ _ h => .inl h) (ho26.mono fun b _ hb => ?_) fun _ _ h => h, hO2, fun b hb => ?_, fun b hb hw => ?_⟩
    · rcases hb with hb | hb
      · exact .inr (.inl hb)
      · exact .inr (.inr (.inl hb))
    · rcases hb with hb | hb | hb
      · exact .inl (.inl hb)
      · rcases HE5.out with h1 | ⟨k, h1, h2⟩
        · exact .inl (.inr (.inl (h1 ▸ hb)))
        · rw [h1] at hb
          cases hb
          exact .inr (Nat.le_trans hsz2 h2)
      · exact .inl (.inr (.inr (hvr b hb)))
    · rcases hw with hw | hw | hw
      · exact hX2 b hb (.inl hw)
      · rcases HE5.out with h1 | ⟨k, h1, h2⟩
        · exact hX2 b hb (.inr (.inl (h1 ▸ hw)))
        · rw [h1] at hw
          cases hw
          have := HP2.out.lt b hb
          omega
      · exact hX2 b hb (.inr (.inr (hvr b hw)))
end Go.Proofs.YtaoegcakefodaaaGreat

