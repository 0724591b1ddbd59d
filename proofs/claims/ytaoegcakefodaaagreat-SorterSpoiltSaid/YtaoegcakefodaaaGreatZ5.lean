/-
  Texts of this proof, merged.
-/
import Derived.Test.YtaoegcakefodaaaGreatZ1
import Derived.Test.YtaoegcakefodaaaGreatZ2
import Derived.Test.YtaoegcakefodaaaGreatZ3
import Derived.Test.YtaoegcakefodaaaGreatZ4
namespace Go.Proofs.YtaoegcakefodaaaGreat
open Go.ChangeAt Go.RowKit
theorem rdV_first {w : World} {ao : Option Addr} {N cap : Nat} {xs : List Value} (h : RdV w (.slice ao N cap) xs) (K : Nat) (hK : K ≤ N) : RdV w (.slice ao K cap) (xs.take K) := by
  rcases h with ⟨h1, h2⟩ | ⟨x, cap', h1, h2, h3, h4⟩
  · simp only [Value.slice.injEq] at h1
    obtain ⟨rfl, rfl, rfl⟩ := h1
    have hk : K = 0 := by omega
    subst hk
    subst h2
    exact .inl ⟨rfl, rfl⟩
  · simp only [Value.slice.injEq] at h1
    obtain ⟨rfl, rfl, rfl⟩ := h1
    exact RdV.takes h2 h3 h4 K K (by omega)
theorem RdV.plain {w : World} {ao : Option Addr} {N cap : Nat} {xs : List Int} (h : RdV w (.slice ao N cap) (xs.map (Value.int .i64))) : N = xs.length ∧ N ≤ cap ∧ cap ≤ maxLen ∧ ∀ j, (hj : j < xs.length) → ∃ g off, ao = some ⟨g, off, none⟩ ∧ w.cell? ⟨g, off + j, none⟩ = some (.int .i64 xs[j]) := by
  obtain ⟨a', c', h0, h1, h2, h3⟩ := RdV.cellsAt h
  simp only [Value.slice.injEq, List.length_map] at h0 h1
  obtain ⟨rfl, rfl, rfl⟩ := h0
  refine ⟨rfl, h1, h2, fun j hj => ?_⟩
  obtain ⟨⟨g, off, sp⟩, rfl, hc⟩ := h3 j (.int .i64 xs[j]) (by rw [List.getElem?_map, List.getElem?_eq_getElem hj]; rfl)
  have hsp : sp = none := by
    obtain ⟨a0, ha0, hc0⟩ := h3 0 (.int .i64 xs[0]) (by rw [List.getElem?_map, List.getElem?_eq_getElem (by omega)]; rfl)
    obtain rfl := Option.some.inj ha0
    have h := World.cell?_spot hc0
    simpa [Addr.add] using h
  subst hsp
  rw [add_at] at hc
  exact ⟨g, off, rfl, hc⟩
theorem RdV.plainV {w : World} {ao : Option Addr} {N cap : Nat} {xs : List Value} (h : RdV w (.slice ao N cap) xs) : N = xs.length ∧ N ≤ cap ∧ cap ≤ maxLen ∧ ∀ j u, xs[j]? = some u → ∃ g off, ao = some ⟨g, off, none⟩ ∧ w.cell? ⟨g, off + j, none⟩ = some u := by
  obtain ⟨a', c', h0, h1, h2, h3⟩ := RdV.cellsAt h
  simp only [Value.slice.injEq] at h0 h1
  obtain ⟨rfl, rfl, rfl⟩ := h0
  refine ⟨rfl, h1, h2, fun j u hj => ?_⟩
  obtain ⟨⟨g, off, sp⟩, rfl, hc⟩ := h3 j u hj
  have hsp : sp = none := by
    have hlt : 0 < xs.length := by
      have := (List.getElem?_eq_some_iff.1 hj).1
      omega
    obtain ⟨a0, ha0, hc0⟩ := h3 0 xs[0] (List.getElem?_eq_getElem hlt)
    obtain rfl := Option.some.inj ha0
    have h := World.cell?_spot hc0
    simpa [Addr.add] using h
  subst hsp
  rw [add_at] at hc
  exact ⟨g, off, rfl, hc⟩
theorem slice_restV {P : Program} {t e : TypeId} (ht : P.underlying t = some (.slice e)) {i0 : TypeInfo} (hi : P.info? e = some i0) (hz : i0.size = 1) {w : World} {ao : Option Addr} {N cap : Nat} {l : List Value} (h : RdV w (.slice ao N cap) l) (k : Nat) (hk : k ≤ N) :
    ∃ a c, RdV w (.slice a (N - k) c) (l.drop k) ∧ ∀ W, (Instr.slice t (.slice ao N cap) (some (.int .i64 (k : Int))) none none).run P W = .ok (.slice a (N - k) c) W := by
  obtain ⟨e, h2, h3, -⟩ := RdV.plainV h
  subst e
  have hlo : (k : Int) ≤ (l.length : Int) := by omega
  rcases h with ⟨h1, h4⟩ | ⟨x, cap', h1, h4, h5, h6⟩
  · simp only [Value.slice.injEq] at h1
    obtain ⟨rfl, h7, rfl⟩ := h1
    have hl0 : l = [] := List.length_eq_zero_iff.1 h7
    subst hl0
    obtain rfl : k = 0 := by simpa using hk
    refine ⟨none, 0, RdV.nil w, fun W => ?_⟩
    simp [Instr.slice, Instr.sliceBounds, Instr.sliceBound, run_underlying ht, sizeOf, typeInfo, hi, go_sem]
  · simp only [Value.slice.injEq] at h1
    obtain ⟨rfl, -, rfl⟩ := h1
    by_cases hc : cap = k
    · refine ⟨some x, cap - k, ?_, fun W => ?_⟩
      · have hd : l.drop k = [] := List.drop_eq_nil_of_le (by omega)
        rw [hd, show l.length - k = 0 by omega]
        exact .inr ⟨x, _, rfl, Nat.zero_le _, by omega, fun i u hu => by simp at hu⟩
      · subst hc
        simp [Instr.slice, Instr.sliceBounds, Instr.sliceBound, run_underlying ht, sizeOf, typeInfo, hi, go_sem, hk]
    · refine ⟨some (x.add k), cap - k, ?_, fun W => ?_⟩
      · refine .inr ⟨x.add k, cap - k, by rw [List.length_drop], by rw [List.length_drop]; omega, by omega, fun i u hu => ?_⟩
        have e2 : (x.add k).add i = x.add (k + i) := by unfold Addr.add; simp; split <;> split <;> simp_all <;> omega
        rw [e2]
        exact h6 (k + i) u (by rw [List.getElem?_drop] at hu; exact hu)
      · simp [Instr.slice, Instr.sliceBounds, Instr.sliceBound, run_underlying ht, sizeOf, typeInfo, hi, hz, go_sem, hk, hc]
end Go.Proofs.YtaoegcakefodaaaGreat

namespace Go.Proofs.YtaoegcakefodaaaGreat
open Go.RowKit
theorem run_append_block {P : Program} (w : World) (base : Nat) (t ty e : TypeId) (i : TypeInfo) (z : Value) (size bytes : Nat) (ht : P.underlying t = some (.slice e)) (hi : P.info? e = some i) (hz : i.zero = some z)
    (hsize : i.size = size) (hby : i.bytes = bytes) (hzs : z.cells.size = size) (hsz : 0 < size)
    (v : Value) (n : Nat) (xs : List Value) (hown : w.ownsRow base e size v n xs)
    (a : Addr) (m c : Nat) (news : List Value) (hl : news.length = m * size) (hnews : ∀ j u, news[j]? = some u → w.cell? (a.add j) = some u) (h1 : ∀ u ∈ news, u.oneCell' = true)
    (h63 : n + m ≤ maxLen) (hbytes : (n + m) * bytes ≤ 140737488355328) (hbase : base ≤ w.heap.size) :
    ∃ v' w', (Builtin.append_ #[t, t] ty #[v, .slice (some a) m c]).run P w = .ok v' w' ∧ w'.ownsRow base e size v' (n + m) (xs ++ news) ∧ w.grownBy w' v.ownBlock ∧
      (v'.ownBlock = v.ownBlock ∨ ∃ k, v'.ownBlock = some k ∧ w.heap.size ≤ k) := by
  obtain ⟨v', w', hrun, ho, hg, hn⟩ := run_append_own w base t ty e i z size bytes ht hi hz hsize hby hzs hsz v n xs hown a m c news hl hnews h1 h63 hbytes hbase
  refine ⟨v', w', hrun, ho, hg, ?_⟩
  subst hsize
  subst hby
  have hsmall : n + m ≤ 9223372036854775807 := by simp only [maxLen] at h63; omega
  rcases hown.2 with ⟨rfl, rfl⟩ | ⟨g, cap, cur, rfl, hbg, hg', hnc, hcm, hcs, htake⟩
  · by_cases hm : m = 0
    · left
      rw [hn.2 ⟨rfl, hm⟩]
    · have hr := run_append_nil (P := P) w t ty e i z ht hi hz a m c news hl hnews (by omega) (by omega) (by have hb := hbytes; simp only [Nat.zero_add] at hb; omega)
      rw [hr] at hrun
      simp only [Result.ok.injEq] at hrun
      right
      exact ⟨_, by rw [← hrun.1]; rfl, Nat.le_refl _⟩
  · by_cases hroom : n + m ≤ cap
    · have hfit : n * i.size + news.length ≤ cur.size := by rw [hl, hcs, ← Nat.add_mul]; exact Nat.mul_le_mul_right _ hroom
      have hr := run_append_room (P := P) w t ty e i ht hi g n cap cur hg' a m c news hl hnews h1 hroom hfit
      rw [hr] at hrun
      simp only [Result.ok.injEq] at hrun
      left
      rw [← hrun.1]
      rfl
    · have holds : ∀ j u, xs[j]? = some u → w.cell? ((⟨g, 0, none⟩ : Addr).add j) = some u := hown.cells (g := g) rfl
      have hr := run_append_grow (P := P) w t ty e i z ht hi hz ⟨g, 0, none⟩ n cap xs hown.1 holds a m c news hl hnews (by omega) (by omega) (growslice_fits (by omega) hbytes)
      rw [hr] at hrun
      simp only [Result.ok.injEq] at hrun
      right
      exact ⟨_, by rw [← hrun.1]; rfl, Nat.le_refl _⟩
theorem wpList_append_apart {P : Program} (w : World) {ops : Array Oper} {rest : List Oper} {o : Oper} {a : Act} {Q : Exit → Act → World → Prop} (hgd : o.guard = none) (s x : Operand) (t : TypeId)
    (ho : o.op = .call { callee := .builtin .append, args := #[s, x], argTypes := #[t, t] })
    (base : Nat) (e : TypeId) (i : TypeInfo) (z : Value) (size bytes : Nat) (ht : P.underlying t = some (.slice e)) (hi : P.info? e = some i) (hz : i.zero = some z)
    (hsize : i.size = size) (hby : i.bytes = bytes) (hzs : z.cells.size = size) (hsz : 0 < size)
    (v : Value) (n : Nat) (xs : List Value) (hs : a.eval s = v) (hown : w.ownsRow base e size v n xs)
    (ad : Addr) (m c : Nat) (news : List Value) (hx : a.eval x = .slice (some ad) m c) (hl : news.length = m * size) (hnews : ∀ j u, news[j]? = some u → w.cell? (ad.add j) = some u) (h1 : ∀ u ∈ news, u.oneCell' = true)
    (h63 : n + m ≤ maxLen) (hbytes : (n + m) * bytes ≤ 140737488355328) (hbase : base ≤ w.heap.size)
    (h : ∀ v' w', w'.ownsRow base e size v' (n + m) (xs ++ news) → w.grownBy w' v.ownBlock → (v'.ownBlock = v.ownBlock ∨ ∃ k, v'.ownBlock = some k ∧ w.heap.size ≤ k) → wpList P ops Q rest (a.put o.dst v') w') : wpList P ops Q (o :: rest) a w := by
  obtain ⟨v', w', hrun, k1, k2, k3⟩ := run_append_block (P := P) w base t o.type e i z size bytes ht hi hz hsize hby hzs hsz v n xs hown ad m c news hl hnews h1 h63 hbytes hbase
  refine wpList_plain hgd fun K hK => ?_
  have hkk := hK _ _ (h v' w' k1 k2 k3)
  unfold Oper.wp
  simp [execOp, ho, resolve, invoke, builtin, hs, hx, hrun, Result.andThen]
  exact hkk
end Go.Proofs.YtaoegcakefodaaaGreat

namespace Go.Proofs.YtaoegcakefodaaaGreat
open Go.RowKit
def ApartV (u v : Value) : Prop := ∀ k, u.ownBlock = some k → v.ownBlock ≠ some k
theorem ApartV.symm {u v : Value} (h : ApartV u v) : ApartV v u := fun k h1 h2 => h k h2 h1
theorem ApartV.nil (u : Value) : ApartV u (.slice none 0 0) := fun _ _ h => by cases h
theorem ApartV.nil' (u : Value) : ApartV (.slice none 0 0) u := fun _ h => by cases h
def Grew (w : World) (v v' : Value) : Prop := v'.ownBlock = v.ownBlock ∨ ∃ k, v'.ownBlock = some k ∧ w.heap.size ≤ k
theorem owns_beside {base n size : Nat} {e : TypeId} {w w' : World} {u v : Value} {xs : List Value} (h : w.ownsRow base e size u n xs) (ho : OnlyS (fun k => v.ownBlock = some k) w w') (ha : ApartV u v) : w'.ownsRow base e size u n xs := by
  refine ⟨h.1, ?_⟩
  rcases h.2 with hn | ⟨g, cap, cur, rfl, hb, hgg, rest⟩
  · exact .inl hn
  · refine .inr ⟨g, cap, cur, rfl, hb, ?_, rest⟩
    rw [ho.block g (Array.getElem?_eq_some_iff.1 hgg).1 (ha g rfl)]
    exact hgg
theorem owns_extS {base n size : Nat} {e : TypeId} {w w' : World} {u : Value} {xs : List Value} (h : w.ownsRow base e size u n xs) (hx : Ext w w') : w'.ownsRow base e size u n xs :=
  h.kept (row := none) ⟨hx.os, hx.tape, hx.output, hx.size, fun k hk _ => hx.block k hk⟩ (by cases u.ownBlock <;> simp)
theorem wpList_append_one {P : Program} {w : World} {ops : Array Oper} {rest : List Oper} {o : Oper} {a : Act} {Q : Exit → Act → World → Prop} (hgd : o.guard = none) (s x : Operand) (t : TypeId)
    (ho : o.op = .call { callee := .builtin .append, args := #[s, x], argTypes := #[t, t] })
    (base : Nat) (e : TypeId) (i : TypeInfo) (z : Value) (size bytes : Nat) (ht : P.underlying t = some (.slice e)) (hi : P.info? e = some i) (hz : i.zero = some z)
    (hsize : i.size = size) (hby : i.bytes = bytes) (hzs : z.cells.size = size) (hsz : 0 < size) (hb100 : bytes ≤ 1000)
    (v : Value) (n : Nat) (xs ys : List Value) (hs : a.eval s = v) (hown : w.ownsRow base e size v n xs) (hx : a.eval x = .slice (some ⟨w.heap.size, 0, none⟩) 1 1) (hl : ys.length = size) (h1 : ∀ u ∈ ys, u.oneCell' = true)
    (hn : n ≤ 10000000) (hbase : base ≤ w.heap.size)
    (h : ∀ v' w', w'.ownsRow base e size v' (n + 1) (xs ++ ys) → Below base w w' → OnlyS (fun k => v.ownBlock = some k) w w' → Grew w v v' → wpList P ops Q rest (a.put o.dst v') w') :
    wpList P ops Q (o :: rest) a (w.alloc (.cells ys.toArray e)) := by
  have hm : (n + 1) * bytes ≤ 140737488355328 := Nat.le_trans (Nat.mul_le_mul (show n + 1 ≤ 10000001 by omega) hb100) (by decide)
  refine wpList_append_apart _ hgd s x t ho base e i z size bytes ht hi hz hsize hby hzs hsz v n xs hs ?_ ⟨w.heap.size, 0, none⟩ 1 1 ys hx (by omega) (row_new w ys e) h1 (by unfold maxLen; omega) hm (by simp; omega) fun v' w' k1 k2 k3 => h v' w' k1 ?_ ?_ ?_
  · exact owns_extS hown (ext_new w _)
  · exact (((Below.refl base w).alloc hbase _).grown k2 (by simp; omega) (fun b hb => (hown.lt b hb).1))
  · exact (OnlyS.of_ext (ext_new w _)).trans (OnlyS.of_grown k2) (fun _ _ h => h)
  · rcases k3 with e | ⟨k, e, hle⟩
    · exact .inl e
    · refine .inr ⟨k, e, ?_⟩
      simp only [World.alloc, Array.size_push] at hle
      omega
end Go.Proofs.YtaoegcakefodaaaGreat

namespace Go.Proofs.YtaoegcakefodaaaGreat
open Go.RowKit Go.BigFrame
theorem Tryz.info_row : (Tryz.prog.info? 58).map (fun i => (i.zero, i.size, i.bytes)) = some (some (.slice none 0 0), 1, 24) := by kernel_rfl
def HdRows (w : World) (hs : List Value) (rs : List (List V)) : Prop := hs.length = rs.length ∧ ∀ i, (h : i < hs.length) → (h' : i < rs.length) → RdVals w hs[i] rs[i]
theorem HdRows.nil (w : World) : HdRows w [] [] := ⟨rfl, fun _ h => absurd h (Nat.not_lt_zero _)⟩
theorem HdRows.mono {w w' : World} {hs : List Value} {rs : List (List V)} (h : HdRows w hs rs) (hb : Below w.heap.size w w') : HdRows w' hs rs := ⟨h.1, fun i h1 h2 => (h.2 i h1 h2).mono hb⟩
theorem HdRows.append {w : World} {hs hs' : List Value} {rs rs' : List (List V)} (h : HdRows w hs rs) (h' : HdRows w hs' rs') : HdRows w (hs ++ hs') (rs ++ rs') := by
  refine ⟨by rw [List.length_append, List.length_append, h.1, h'.1], fun i h1 h2 => ?_⟩
  rw [List.length_append] at h1 h2
  by_cases hi : i < hs.length
  · rw [List.getElem_append_left hi, List.getElem_append_left (h.1 ▸ hi)]
    exact h.2 i hi (h.1 ▸ hi)
  · have e := h.1
    rw [List.getElem_append_right (by omega), List.getElem_append_right (by omega)]
    have k := h'.2 (i - hs.length) (by omega) (by omega)
    simp only [e] at k ⊢
    exact k
theorem HdRows.take {w : World} {hs : List Value} {rs : List (List V)} (h : HdRows w hs rs) (n : Nat) : HdRows w (hs.take n) (rs.take n) := by
  refine ⟨by rw [List.length_take, List.length_take, h.1], fun i h1 h2 => ?_⟩
  rw [List.length_take] at h1 h2
  rw [List.getElem_take, List.getElem_take]
  exact h.2 i (by omega) (by omega)
theorem HdRows.drop {w : World} {hs : List Value} {rs : List (List V)} (h : HdRows w hs rs) (n : Nat) : HdRows w (hs.drop n) (rs.drop n) := by
  refine ⟨by rw [List.length_drop, List.length_drop, h.1], fun i h1 h2 => ?_⟩
  rw [List.length_drop] at h1 h2
  rw [List.getElem_drop, List.getElem_drop]
  exact h.2 (n + i) (by omega) (by omega)
theorem HdRows.one {w : World} {v : Value} {r : List V} (h : RdVals w v r) : HdRows w [v] [r] := ⟨rfl, fun i h1 _ => by
  have : i = 0 := by simpa using h1
  subst this
  exact h⟩
theorem HdRows.get {w : World} {hs : List Value} {rs : List (List V)} (h : HdRows w hs rs) (i : Nat) (hi : i < rs.length) : ∃ a n c, hs[i]? = some (Value.slice a n c) ∧ RdVals w (.slice a n c) rs[i] := by
  have h1 := h.2 i (h.1 ▸ hi) hi
  obtain ⟨a, c, e, -, -⟩ := h1.shape
  exact ⟨a, _, c, by rw [List.getElem?_eq_getElem (h.1 ▸ hi), e], e ▸ h1⟩
theorem HdRows.shape {w : World} {hs : List Value} {rs : List (List V)} (h : HdRows w hs rs) : ∀ x ∈ hs, ∃ a n c, x = Value.slice a n c := fun x hx => by
  obtain ⟨i, hi, rfl⟩ := List.mem_iff_getElem.1 hx
  obtain ⟨a, c, e, -, -⟩ := (h.2 i hi (h.1 ▸ hi)).shape
  exact ⟨a, _, c, e⟩
theorem RdRows.heads {w : World} {ao : Option Addr} {N cap : Nat} {rs : List (List V)} (h : RdRows w (.slice ao N cap) rs) :
    ∃ hs, HdRows w hs rs ∧ N = rs.length ∧ N ≤ cap ∧ cap ≤ maxLen ∧ ∀ j u, hs[j]? = some u → ∃ g off, ao = some ⟨g, off, none⟩ ∧ w.cell? ⟨g, off + j, none⟩ = some u := by
  obtain ⟨a', cap', h1, h2, h3, h4⟩ := h
  simp only [Value.slice.injEq] at h1
  obtain ⟨rfl, rfl, rfl⟩ := h1
  have key : ∀ j, (hj : j < rs.length) → ∃ v, RdVals w v rs[j] ∧ ∃ g off, ao = some ⟨g, off, none⟩ ∧ w.cell? ⟨g, off + j, none⟩ = some v := fun j hj => by
    obtain ⟨x, v, rfl, h6, h7⟩ := h4 j hj
    obtain ⟨b, o, sp⟩ := x
    have hsp : sp = none := by
      obtain ⟨x0, v0, e0, -, h70⟩ := h4 0 (by omega)
      rw [← Option.some.inj e0, add_zero] at h70
      exact World.cell?_spot h70
    subst hsp
    rw [add_at] at h7
    exact ⟨v, h6, b, o, rfl, h7⟩
  refine ⟨(List.range rs.length).map fun j => if hj : j < rs.length then (key j hj).choose else .slice none 0 0, ⟨by simp, fun i h1 h2 => ?_⟩, rfl, h2, h3, fun j u hu => ?_⟩
  · rw [List.getElem_map, List.getElem_range, dif_pos h2]
    exact (key i h2).choose_spec.1
  · obtain ⟨hj, e⟩ := List.getElem?_eq_some_iff.1 hu
    have hj' : j < rs.length := by simpa using hj
    rw [List.getElem_map, List.getElem_range, dif_pos hj'] at e
    obtain ⟨g, off, e1, e2⟩ := (key j hj').choose_spec.2
    exact ⟨g, off, e1, e ▸ e2⟩
theorem RdRows.of_heads {w : World} {u : Value} {hs : List Value} {rs : List (List V)} (h : RdV w u hs) (hh : HdRows w hs rs) : RdRows w u rs := by
  obtain ⟨a, c, e, h2, h3, h4⟩ := RdV.cellsAt h
  subst e
  refine ⟨a, c, by rw [hh.1], by rw [← hh.1]; exact h2, h3, fun j hj => ?_⟩
  obtain ⟨x, n, cc, e1, e2⟩ := hh.get j hj
  obtain ⟨g, off, rfl, e4⟩ := (RdV.plainV h).2.2.2 j _ e1
  exact ⟨_, _, rfl, e2, by rw [add_at]; exact e4⟩
def RdRV (w : World) (u : Value) (rs : List (List V)) : Prop := ∃ hs, RdV w u hs ∧ HdRows w hs rs
theorem RdRV.mono {w w' : World} {u : Value} {rs : List (List V)} (h : RdRV w u rs) (hb : Below w.heap.size w w') : RdRV w' u rs := by
  obtain ⟨hs, h1, h2⟩ := h
  exact ⟨hs, h1.mono hb, h2.mono hb⟩
theorem RdRV.rd {w : World} {u : Value} {rs : List (List V)} (h : RdRV w u rs) : RdRows w u rs := by
  obtain ⟨hs, h1, h2⟩ := h
  exact RdRows.of_heads h1 h2
theorem RdRV.shape {w : World} {u : Value} {rs : List (List V)} (h : RdRV w u rs) : ∃ a cap, u = .slice a rs.length cap ∧ rs.length ≤ cap ∧ cap ≤ maxLen := h.rd.shape
theorem RdRV.cut {w : World} {ao : Option Addr} {N cap : Nat} {rs : List (List V)} (h : RdRV w (.slice ao N cap) rs) (hN : 0 < N) :
    ∃ a n c g off r t a' c', rs = r :: t ∧ ao = some ⟨g, off, none⟩ ∧ w.cell? ⟨g, off, none⟩ = some (.slice a n c) ∧ RdVals w (.slice a n c) r ∧ RdRV w (.slice a' (N - 1) c') t ∧ ∀ W, (Instr.slice 22 (.slice ao N cap) (some (.int .i64 1)) none none).run Tryz.prog W = .ok (.slice a' (N - 1) c') W := by
  obtain ⟨hs, h1, h2⟩ := h
  obtain ⟨i1, hi1, hy0, hy1, hy2⟩ := info_parts Tryz.info_row
  obtain ⟨e, -, -, hat⟩ := RdV.plainV h1
  obtain ⟨a', c', k1, k2⟩ := slice_restV Tryz.underlying22 hi1 hy1 h1 1 (by omega)
  have hl := h2.1
  cases rs with
  | nil => simp at hl; subst hl; simp at e; omega
  | cons r t =>
    obtain ⟨x, n, c, e1, e2⟩ := h2.get 0 (by simp)
    obtain ⟨g, off, rfl, e4⟩ := hat 0 _ e1
    exact ⟨x, n, c, g, off, r, t, a', c', rfl, rfl, e4, e2, ⟨_, k1, h2.drop 1⟩, k2⟩
theorem RdRV.take {w : World} {ao : Option Addr} {N cap : Nat} {rs : List (List V)} (h : RdRV w (.slice ao N cap) rs) (K : Nat) (hK : K ≤ N) : RdRV w (.slice ao K cap) (rs.take K) := by
  obtain ⟨hs, h1, h2⟩ := h
  refine ⟨hs.take K, ?_, h2.take K⟩
  rcases h1 with ⟨e, rfl⟩ | ⟨x, c, e, h3, h4, h5⟩
  · simp only [Value.slice.injEq] at e
    obtain ⟨rfl, rfl, rfl⟩ := e
    have : K = 0 := by omega
    subst this
    exact .inl ⟨rfl, rfl⟩
  · simp only [Value.slice.injEq] at e
    obtain ⟨rfl, rfl, rfl⟩ := e
    exact RdV.takes h3 h4 h5 K K (by omega)
end Go.Proofs.YtaoegcakefodaaaGreat

namespace Go.Proofs.YtaoegcakefodaaaGreat
open Go.RowKit Go.BigFrame
theorem vals_le (r : List V) : (r.flatMap encV).length ≤ 2000 * r.length := by
  induction r with
  | nil => simp
  | cons v t ih =>
    rw [List.flatMap_cons, List.length_append, List.length_cons, Nat.mul_succ]
    have := encV_le v
    omega
theorem rowB_le (r : List V) : (rowB r).length ≤ 2000 * r.length + 9 := by
  unfold rowB
  rw [List.length_append]
  have := vals_le r
  have := enc_length r.length
  omega
end Go.Proofs.YtaoegcakefodaaaGreat

namespace Go.Proofs.YtaoegcakefodaaaGreat
open Go.RowKit Go.BigFrame
def FitB (rows : List (List V)) : Prop := rows.length ≤ 1000 ∧ ∀ r ∈ rows, r.length ≤ 400 ∧ ∀ v ∈ r, v.fits ∧ v.s.length ≤ 5000
theorem rowsB_le {rows : List (List V)} (h : ∀ r ∈ rows, r.length ≤ 400) : (rowsB rows).length ≤ 900000 * rows.length := by
  induction rows with
  | nil => simp [rowsB]
  | cons r t ih =>
    have h1 := h r (by simp)
    have h2 := ih fun q hq => h q (by simp [hq])
    have h3 := rowB_le r
    have e : rowsB (r :: t) = rowB r ++ rowsB t := rfl
    rw [e, List.length_append, List.length_cons, Nat.mul_succ]
    have := Nat.mul_le_mul_left 2000 h1
    omega
def ivs (ids : List Nat) : List Value := ids.map iv
end Go.Proofs.YtaoegcakefodaaaGreat

namespace Go.Proofs.YtaoegcakefodaaaGreat
open Go.RowKit
inductive Plan
  | done : Plan
  | quiet : List Nat → Plan → Plan
  | one : Nat → Plan → Plan
  | two : Nat → Plan → Nat → Plan → Plan
  | three : Nat → Plan → Nat → Plan → Nat → Plan → Plan
def Plan.count : Plan → Nat
  | .done => 0
  | .quiet qs p => qs.length + p.count
  | .one _ p => p.count + 1
  | .two _ p _ q => max p.count q.count + 1
  | .three _ p _ q _ r => max p.count (max q.count r.count) + 1
def planOk (ops : Array Oper) : Plan → Array Bool → Bool
  | .done, listed => (Region.ready .any ops listed).isEmpty
  | .quiet qs p, listed => quietOk ops qs listed && planOk ops p (marked qs listed)
  | .one i p, listed => (Region.ready .any ops listed == [i]) && planOk ops p (listed.setIfInBounds i true)
  | .two i p j q, listed => (Region.ready .any ops listed == [i, j]) && planOk ops p (listed.setIfInBounds i true) && planOk ops q (listed.setIfInBounds j true)
  | .three i p j q k r, listed => (Region.ready .any ops listed == [i, j, k]) && planOk ops p (listed.setIfInBounds i true) && planOk ops q (listed.setIfInBounds j true) && planOk ops r (listed.setIfInBounds k true)
def wpPlan (P : Program) (R : World → World → Prop) (ops : Array Oper) (Q : Exit → Act → World → Prop) : Plan → Act → World → Prop
  | .done, a, w => Q .normal a w
  | .quiet qs p, a, w => wpQuiet P ops (fun w' => ∃ p : Later R w, w' = p.val) (fun a' => wpPlan P R ops Q p a' w) (pickOps ops qs) a
  | .one i p, a, w => wpList P ops (Exit.then (fun a'' w'' => R w w'' ∧ wpPlan P R ops Q p a'' w'') Q) (pickOps ops [i]) a w
  | .two i p j q, a, w => wpList P ops (Exit.then (fun a'' w'' => R w w'' ∧ wpPlan P R ops Q p a'' w'') Q) (pickOps ops [i]) a w ∧ wpList P ops (Exit.then (fun a'' w'' => R w w'' ∧ wpPlan P R ops Q q a'' w'') Q) (pickOps ops [j]) a w
  | .three i p j q k r, a, w => wpList P ops (Exit.then (fun a'' w'' => R w w'' ∧ wpPlan P R ops Q p a'' w'') Q) (pickOps ops [i]) a w ∧ wpList P ops (Exit.then (fun a'' w'' => R w w'' ∧ wpPlan P R ops Q q a'' w'') Q) (pickOps ops [j]) a w ∧ wpList P ops (Exit.then (fun a'' w'' => R w w'' ∧ wpPlan P R ops Q r a'' w'') Q) (pickOps ops [k]) a w
section
variable {P : Program} {ops : Array Oper} {Q : Exit → Act → World → Prop} {R : World → World → Prop}
theorem plan_sound (hR : Keeps R) (hs : Region.noSelect ops = true) (hQ : ∀ c (a : Act) (i : Nat) (o : Oper) v w, ops[i]? = some o → Q (.panic c) (a.put o.dst v) w → Q (.panic c) a w) :
    ∀ (p : Plan) (listed : Array Bool) (a : Act) (w : World) (fuel : Nat), p.count ≤ fuel → planOk ops p listed = true → wpPlan P R ops Q p a w → wpAnyH P .any ops Q (R w) fuel listed a w
  | .done, listed, a, w, fuel, _, hok, h => wpAnyH_done (by simpa [planOk] using hok) h _
  | .quiet qs p, listed, a, w, fuel, hc, hok, h => by
    simp only [planOk, Bool.and_eq_true] at hok
    simp only [Plan.count] at hc
    obtain ⟨f, rfl⟩ : ∃ f, fuel = qs.length + f := ⟨fuel - qs.length, by omega⟩
    exact quietSeg hR hs hQ f qs listed a hok.1 h fun a' h' => plan_sound hR hs hQ p _ _ _ f (by omega) hok.2 h'
  | .one i p, listed, a, w, fuel, hc, hok, h => by
    simp only [planOk, Bool.and_eq_true, beq_iff_eq] at hok
    simp only [Plan.count] at hc
    obtain ⟨f, rfl⟩ : ∃ f, fuel = f + 1 := ⟨fuel - 1, by omega⟩
    have hi : ∃ o, ops[i]? = some o := by
      have : i ∈ Region.ready .any ops listed := by rw [hok.1]; simp
      obtain ⟨_, o, ho, _⟩ := mem_ready.1 this
      exact ⟨o, ho⟩
    obtain ⟨o, ho⟩ := hi
    have hp : pickOps ops [i] = [o] := by simp [pickOps, ho]
    simp only [wpPlan, hp] at h
    refine wpAnyH_all hok.1 (by simp) fun j hj => ?_
    obtain rfl : j = i := by simpa using hj
    refine wpOp_mono (fun a'' w'' h'' => ⟨h''.1, ?_⟩) (wpOp_of_list ho h)
    exact wpAnyH_weaken (fun w3 h3' => hR.trans _ _ _ h''.1 h3') _ _ _ _ (plan_sound hR hs hQ p _ _ _ f (by omega) hok.2 h''.2)
  | .two i p j q, listed, a, w, fuel, hc, hok, h => by
    simp only [planOk, Bool.and_eq_true, beq_iff_eq] at hok
    obtain ⟨⟨hr, h1⟩, h2⟩ := hok
    simp only [Plan.count] at hc
    obtain ⟨f, rfl⟩ : ∃ f, fuel = f + 1 := ⟨fuel - 1, by omega⟩
    have hi : ∀ k, k ∈ [i, j] → ∃ o, ops[k]? = some o := fun k hk => by
      have : k ∈ Region.ready .any ops listed := by rw [hr]; exact hk
      obtain ⟨_, o, ho, _⟩ := mem_ready.1 this
      exact ⟨o, ho⟩
    obtain ⟨o, ho⟩ := hi i (by simp)
    obtain ⟨o', ho'⟩ := hi j (by simp)
    have hp : pickOps ops [i] = [o] := by simp [pickOps, ho]
    have hp' : pickOps ops [j] = [o'] := by simp [pickOps, ho']
    simp only [wpPlan, hp, hp'] at h
    refine wpAnyH_all hr (by simp) fun k hk => ?_
    have hk' : k = i ∨ k = j := by simpa using hk
    rcases hk' with rfl | rfl
    · refine wpOp_mono (fun a'' w'' h'' => ⟨h''.1, ?_⟩) (wpOp_of_list ho h.1)
      exact wpAnyH_weaken (fun w3 h3' => hR.trans _ _ _ h''.1 h3') _ _ _ _ (plan_sound hR hs hQ p _ _ _ f (by omega) h1 h''.2)
    · refine wpOp_mono (fun a'' w'' h'' => ⟨h''.1, ?_⟩) (wpOp_of_list ho' h.2)
      exact wpAnyH_weaken (fun w3 h3' => hR.trans _ _ _ h''.1 h3') _ _ _ _ (plan_sound hR hs hQ q _ _ _ f (by omega) h2 h''.2)
  | .three i p j q k r, listed, a, w, fuel, hc, hok, h => by
    simp only [planOk, Bool.and_eq_true, beq_iff_eq] at hok
    obtain ⟨⟨⟨hr, h1⟩, h2⟩, h3⟩ := hok
    simp only [Plan.count] at hc
    obtain ⟨f, rfl⟩ : ∃ f, fuel = f + 1 := ⟨fuel - 1, by omega⟩
    have hi : ∀ l, l ∈ [i, j, k] → ∃ o, ops[l]? = some o := fun l hl => by
      have : l ∈ Region.ready .any ops listed := by rw [hr]; exact hl
      obtain ⟨_, o, ho, _⟩ := mem_ready.1 this
      exact ⟨o, ho⟩
    obtain ⟨o, ho⟩ := hi i (by simp)
    obtain ⟨o', ho'⟩ := hi j (by simp)
    obtain ⟨o2, ho2⟩ := hi k (by simp)
    have hp : pickOps ops [i] = [o] := by simp [pickOps, ho]
    have hp' : pickOps ops [j] = [o'] := by simp [pickOps, ho']
    have hp2 : pickOps ops [k] = [o2] := by simp [pickOps, ho2]
    simp only [wpPlan, hp, hp', hp2] at h
    refine wpAnyH_all hr (by simp) fun l hl => ?_
    have hl' : l = i ∨ l = j ∨ l = k := by simpa using hl
    rcases hl' with rfl | rfl | rfl
    · refine wpOp_mono (fun a'' w'' h'' => ⟨h''.1, ?_⟩) (wpOp_of_list ho h.1)
      exact wpAnyH_weaken (fun w3 h3' => hR.trans _ _ _ h''.1 h3') _ _ _ _ (plan_sound hR hs hQ p _ _ _ f (by omega) h1 h''.2)
    · refine wpOp_mono (fun a'' w'' h'' => ⟨h''.1, ?_⟩) (wpOp_of_list ho' h.2.1)
      exact wpAnyH_weaken (fun w3 h3' => hR.trans _ _ _ h''.1 h3') _ _ _ _ (plan_sound hR hs hQ q _ _ _ f (by omega) h2 h''.2)
    · refine wpOp_mono (fun a'' w'' h'' => ⟨h''.1, ?_⟩) (wpOp_of_list ho2 h.2.2)
      exact wpAnyH_weaken (fun w3 h3' => hR.trans _ _ _ h''.1 h3') _ _ _ _ (plan_sound hR hs hQ r _ _ _ f (by omega) h3 h''.2)
theorem wp_region_plan {id : Nat} {a : Act} {w : World} {l : List Oper} (R : World → World → Prop) (hR : Keeps R) (p : Plan) (hm : P.follows .mixedOrders = true)
    (hok : (Region.noSelect l.toArray && planOk l.toArray p (Array.replicate l.length false) && decide (p.count ≤ l.length)) = true)
    {Q : Exit → Act → World → Prop} (hQ : ∀ c (a a' : Act) w, a.defers = a'.defers → Q (.panic c) a w → Q (.panic c) a' w)
    (h : wpPlan P R l.toArray Q p a w.drew) : (Code.region id l.toArray true).wp P Q a w := by
  simp only [Bool.and_eq_true, decide_eq_true_eq] at hok
  refine wp_region_held (S := R w.drew) hm ?_
  exact plan_sound hR hok.1.1 (fun c a i o v w _ hq => hQ c _ a w (by cases o.dst <;> rfl) hq) p _ _ _ _ hok.2 hok.1.2 h
theorem wpPlan_done {a : Act} {w : World} (h : Q .normal a w) : wpPlan P R ops Q .done a w := h
theorem wpPlan_quiet {qs : List Nat} {p : Plan} {a : Act} {w : World} (h : ∀ K : Act → Prop, (∀ a, wpPlan P R ops Q p a w → K a) → wpQuiet P ops (fun w' => ∃ p : Later R w, w' = p.val) K (pickOps ops qs) a) : wpPlan P R ops Q (.quiet qs p) a w :=
  h _ fun _ h => h
theorem wpPlan_one {i : Nat} {p : Plan} {a : Act} {w : World} (h : ∀ K : Act → World → Prop, (∀ a w, wpPlan P R ops Q p a w → K a w) → wpList P ops (Exit.then (fun a'' w'' => R w w'' ∧ K a'' w'') Q) (pickOps ops [i]) a w) : wpPlan P R ops Q (.one i p) a w :=
  h _ fun _ _ h => h
theorem wpPlan_two {i j : Nat} {p q : Plan} {a : Act} {w : World} (h : ∀ K : Act → World → Prop, (∀ a w, wpPlan P R ops Q p a w → K a w) → wpList P ops (Exit.then (fun a'' w'' => R w w'' ∧ K a'' w'') Q) (pickOps ops [i]) a w)
    (h' : ∀ K : Act → World → Prop, (∀ a w, wpPlan P R ops Q q a w → K a w) → wpList P ops (Exit.then (fun a'' w'' => R w w'' ∧ K a'' w'') Q) (pickOps ops [j]) a w) : wpPlan P R ops Q (.two i p j q) a w :=
  ⟨h _ fun _ _ h => h, h' _ fun _ _ h => h⟩
theorem wpPlan_three {i j k : Nat} {p q r : Plan} {a : Act} {w : World} (h : ∀ K : Act → World → Prop, (∀ a w, wpPlan P R ops Q p a w → K a w) → wpList P ops (Exit.then (fun a'' w'' => R w w'' ∧ K a'' w'') Q) (pickOps ops [i]) a w)
    (h' : ∀ K : Act → World → Prop, (∀ a w, wpPlan P R ops Q q a w → K a w) → wpList P ops (Exit.then (fun a'' w'' => R w w'' ∧ K a'' w'') Q) (pickOps ops [j]) a w)
    (h2 : ∀ K : Act → World → Prop, (∀ a w, wpPlan P R ops Q r a w → K a w) → wpList P ops (Exit.then (fun a'' w'' => R w w'' ∧ K a'' w'') Q) (pickOps ops [k]) a w) : wpPlan P R ops Q (.three i p j q k r) a w :=
  ⟨h _ fun _ _ h => h, h' _ fun _ _ h => h, h2 _ fun _ _ h => h⟩
end
end Go.Proofs.YtaoegcakefodaaaGreat

namespace Go.Proofs.YtaoegcakefodaaaGreat
open Go.RowKit
structure Wr17 where
  ids : List Nat
  buf : List UInt8
  many : Nat
  on : Bool
def offW : Wr17 := ⟨[], [], 0, false⟩
def newW : Wr17 := ⟨[], [], 0, true⟩
def intsN (ids : List Nat) : List Int := ids.map fun (j : Nat) => (j : Int)
def addW (s : St) (W : Wr17) (r : List V) : (Int × Wr17) × St :=
  if W.on = false then ((2, W), s)
  else if mayR r ≠ 0 then ((mayR r, W), s)
  else if (W.buf ++ rowB r).length / 56 + usedS s ≤ s.length then ((0, ⟨W.ids ++ idsK s ((W.buf ++ rowB r).length / 56), (W.buf ++ rowB r).drop (56 * ((W.buf ++ rowB r).length / 56)), W.many + 1, true⟩), storeK s (W.buf ++ rowB r) ((W.buf ++ rowB r).length / 56))
  else ((4, offW), dropS s (intsN W.ids))
def doneW (s : St) (W : Wr17) : (Int × (List Nat × Nat)) × St :=
  if W.on = false then ((2, ([], 0)), s)
  else if W.buf = [] then ((0, (W.ids, W.many)), s)
  else if 1 + usedS s ≤ s.length then ((0, (W.ids ++ idsK s 1, W.many)), storeK s W.buf 1)
  else ((4, ([], 0)), dropS s (intsN W.ids))
def cancelW (s : St) (W : Wr17) : St := if W.on = false then s else dropS s (intsN W.ids)
def Part (s : St) (l : List Nat) : Prop := l.Nodup ∧ ∀ i, (∃ q, s[i]? = some (some q)) ↔ i ∈ l
theorem Part.perm {s : St} {l l' : List Nat} (h : Part s l) (hp : l.Perm l') : Part s l' := ⟨hp.nodup h.1, fun i => (h.2 i).trans hp.mem_iff⟩
theorem Part.free (n : Nat) : Part (List.replicate n none) [] := by
  refine ⟨List.nodup_nil, fun i => ⟨?_, fun h => by cases h⟩⟩
  rintro ⟨q, h⟩
  have := List.eq_of_mem_replicate (List.mem_of_getElem? h)
  cases this
theorem Part.lt {s : St} {l : List Nat} (h : Part s l) {i : Nat} (hi : i ∈ l) : i < s.length := by
  obtain ⟨q, hq⟩ := (h.2 i).2 hi
  exact (List.getElem?_eq_some_iff.1 hq).1
theorem filter_lt (l : List Nat) (n : Nat) (hd : l.Nodup) (h : ∀ i ∈ l, i < n) : ((List.range n).filter fun i => decide (i ∈ l)).length = l.length := by
  have hp : ((List.range n).filter fun i => decide (i ∈ l)).Perm l := by
    refine (List.perm_ext_iff_of_nodup (List.nodup_range.filter _) hd).2 fun i => ?_
    rw [List.mem_filter, List.mem_range]
    simp only [decide_eq_true_eq]
    exact ⟨fun h => h.2, fun hi => ⟨h i hi, hi⟩⟩
  exact hp.length_eq
theorem used_range : ∀ s : St, usedS s = ((List.range s.length).filter fun i => (s[i]?.join).isSome).length := by
  intro s
  unfold usedS
  rw [← List.countP_eq_length_filter]
  have e : s = (List.range s.length).map fun i => s[i]?.join := by
    apply List.ext_getElem?
    intro i
    rw [List.getElem?_map]
    by_cases hi : i < s.length
    · rw [List.getElem?_range hi, List.getElem?_eq_getElem hi]
      simp [List.getElem?_eq_getElem hi]
    · rw [List.getElem?_eq_none (by omega), List.getElem?_eq_none (by simp; omega)]
      rfl
  conv => lhs; rw [e]
  rw [List.countP_map]
  rfl
theorem Part.used {s : St} {l : List Nat} (h : Part s l) : usedS s = l.length := by
  rw [used_range, ← filter_lt l s.length h.1 fun i hi => h.lt hi]
  congr 1
  refine List.filter_congr fun i hi => ?_
  have hb : (s[i]?.join).isSome = true ↔ i ∈ l := by
    rw [← h.2 i]
    cases hs : s[i]? with
    | none => simp
    | some o => cases o <;> simp
  rw [Bool.eq_iff_iff, decide_eq_true_eq]
  exact hb
theorem Part.take {s : St} {l : List Nat} (h : Part s l) (b : List UInt8) {k : Nat} (_hk : k + usedS s ≤ s.length) : Part (storeK s b k) (idsK s k ++ l) := by
  have hfree : ∀ i ∈ idsK s k, s[i]? = some none := fun i hi => by
    have := takeS_free k 0 s i hi
    rwa [Nat.sub_zero] at this
  refine ⟨List.nodup_append.2 ⟨takeS_nodup k 0 s, h.1, fun i hi j hj e => ?_⟩, fun i => ?_⟩
  · subst e
    obtain ⟨q, hq⟩ := (h.2 i).2 hj
    rw [hfree i hi] at hq
    cases hq
  · rw [List.mem_append]
    have hp : (patS (storeK s b k))[i]? = (patS (takeS 0 k s).2)[i]? := by rw [storeK_pat]
    have key : ∀ t : St, (∃ q, t[i]? = some (some q)) ↔ (patS t)[i]? = some true := fun t => by
      unfold patS
      rw [List.getElem?_map]
      cases t[i]? with
      | none => simp
      | some o => cases o <;> simp
    rw [key, hp, ← key]
    by_cases hi : i ∈ idsK s k
    · refine ⟨fun _ => .inl hi, fun _ => ?_⟩
      obtain ⟨-, p, hp2⟩ := takeS_has k 0 s i hi
      rw [Nat.sub_zero] at hp2
      exact ⟨p, hp2⟩
    · rw [takeS_all]
      have e := sets_other (idsK s k) s i hi
      unfold idsK at e hi ⊢
      rw [e, h.2 i]
      exact ⟨fun h => .inr h, fun h2 => h2.resolve_left hi⟩
theorem Part.drop {s : St} {a l : List Nat} (h : Part s (a ++ l)) : Part (dropS s (intsN a)) l := by
  obtain ⟨hd, hm⟩ := h
  obtain ⟨-, hl, ha⟩ := List.nodup_append.1 hd
  refine ⟨hl, fun i => ?_⟩
  by_cases hi : i ∈ a
  · have hlt : i < s.length := by
      obtain ⟨q, hq⟩ := (hm i).2 (List.mem_append.2 (.inl hi))
      exact (List.getElem?_eq_some_iff.1 hq).1
    unfold intsN
    rw [dropS_self a s i hi hlt]
    exact ⟨fun ⟨q, hq⟩ => by (cases hq), fun h2 => absurd rfl (ha i hi i h2)⟩
  · unfold intsN
    rw [dropS_other _ s i (fun j hj e => by
      obtain ⟨q, hq, rfl⟩ := List.mem_map.1 hj
      exact hi (by have : q = i := by omega
                   exact this ▸ hq)), hm i, List.mem_append]
    exact ⟨fun h => h.resolve_left hi, fun h => .inr h⟩
end Go.Proofs.YtaoegcakefodaaaGreat

namespace Go.Proofs.YtaoegcakefodaaaGreat
open Go.RowKit
theorem takeS_add (s : St) (K : Nat) : ∀ k, (takeS 0 (K + k) s).1 = (takeS 0 K s).1 ++ (takeS 0 k (takeS 0 K s).2).1 ∧ (takeS 0 (K + k) s).2 = (takeS 0 k (takeS 0 K s).2).2
  | 0 => by rw [Nat.add_zero, takeS_zero]; exact ⟨(List.append_nil _).symm, rfl⟩
  | k + 1 => by
    obtain ⟨h1, h2⟩ := takeS_more s (K + k) 0
    obtain ⟨h3, h4⟩ := takeS_more (takeS 0 K s).2 k 0
    obtain ⟨h5, h6⟩ := takeS_add s K k
    rw [← Nat.add_assoc]
    exact ⟨by rw [h1, h3, h5, h6, List.append_assoc], by rw [h2, h4, h6]⟩
theorem idsK_add (s : St) (b : List UInt8) (K k : Nat) : idsK s (K + k) = idsK s K ++ idsK (storeK s b K) k := by
  have h := (takeS_add s K k).1
  unfold idsK at h ⊢
  rw [h, takeS_pat (takeS 0 K s).2 (storeK s b K) k 0 (storeK_pat s b K).symm]
theorem writes_parts : ∀ (a c : List Nat) (B : List UInt8) (s : St), writesS (a ++ c) B s = writesS c (B.drop (56 * a.length)) (writesS a B s)
  | [], c, B, s => by simp [writesS]
  | id :: t, c, B, s => by
    rw [List.cons_append]
    simp only [writesS]
    rw [writes_parts t c, List.drop_drop, List.length_cons]
    congr 2
    omega
theorem storeK_add {s : St} (B : List UInt8) {K : Nat} (k : Nat) (h : K + usedS s ≤ s.length) : storeK s B (K + k) = storeK (storeK s B K) (B.drop (56 * K)) k := by
  have h1 : storeK s B (K + k) = writesS (idsK s (K + k)) B s := rfl
  have h2 : storeK (storeK s B K) (B.drop (56 * K)) k = writesS (idsK (storeK s B K) k) (B.drop (56 * K)) (storeK s B K) := rfl
  rw [h1, h2, idsK_add s B K k, writes_parts, idsK_length h]
  rfl
theorem storeK_dropped {s : St} (b : List UInt8) (K : Nat) : dropS (storeK s b K) (intsN (idsK s K)) = s := storeK_back s b K
def fullK (rows : List (List V)) : Nat := (rowsB rows).length / 56
def atW (s : St) (rows : List (List V)) : Wr17 := ⟨idsK s (fullK rows), (rowsB rows).drop (56 * fullK rows), rows.length, true⟩
theorem atW_nil (s : St) : atW s [] = newW ∧ storeK s (rowsB []) (fullK []) = s := by
  have h : fullK [] = 0 := rfl
  unfold atW
  rw [h]
  exact ⟨by rw [(storeK_zero s []).1]; rfl, (storeK_zero s _).2⟩
theorem fullK_snoc {s : St} (rows : List (List V)) (r : List V) : ((atW s rows).buf ++ rowB r).length / 56 + fullK rows = fullK (rows ++ [r]) := by
  unfold fullK atW fullK
  simp only
  rw [rowsB_snoc, List.length_append, List.length_append, List.length_drop]
  omega
theorem addW_room {s : St} {rows : List (List V)} {r : List V} (hm : mayR r = 0) (h : fullK (rows ++ [r]) + usedS s ≤ s.length) : addW (storeK s (rowsB rows) (fullK rows)) (atW s rows) r = ((0, atW s (rows ++ [r])), storeK s (rowsB (rows ++ [r])) (fullK (rows ++ [r]))) := by
  have hk := fullK_snoc (s := s) rows r
  have hK : fullK rows + usedS s ≤ s.length := by omega
  have hle : 56 * fullK rows ≤ (rowsB rows).length := by unfold fullK; omega
  have hu := storeK_used (b := rowsB rows) hK
  have hl := storeK_length s (rowsB rows) (fullK rows)
  have hb : (atW s rows).buf ++ rowB r = (rowsB (rows ++ [r])).drop (56 * fullK rows) := by
    rw [rowsB_snoc, List.drop_append_of_le_length hle]
    rfl
  have hpre : storeK s (rowsB rows) (fullK rows) = storeK s (rowsB (rows ++ [r])) (fullK rows) := by
    rw [rowsB_snoc]
    exact (storeK_prefix (rowB r) hK hle).symm
  unfold addW
  rw [if_neg (by simp [atW]), if_neg (by simp [hm]), if_pos (by rw [hl, hu]; omega)]
  have e1 : (atW s rows).ids ++ idsK (storeK s (rowsB rows) (fullK rows)) (((atW s rows).buf ++ rowB r).length / 56) = idsK s (fullK (rows ++ [r])) := by
    rw [← hk, Nat.add_comm, idsK_add s (rowsB rows)]
    rfl
  have e2 : ((atW s rows).buf ++ rowB r).drop (56 * (((atW s rows).buf ++ rowB r).length / 56)) = (rowsB (rows ++ [r])).drop (56 * fullK (rows ++ [r])) := by
    conv => lhs; rw [hb]
    rw [List.drop_drop, ← hb]
    congr 1
    omega
  have e3 : storeK (storeK s (rowsB rows) (fullK rows)) ((atW s rows).buf ++ rowB r) (((atW s rows).buf ++ rowB r).length / 56) = storeK s (rowsB (rows ++ [r])) (fullK (rows ++ [r])) := by
    rw [← hk, Nat.add_comm _ (fullK rows), storeK_add (rowsB (rows ++ [r])) _ hK, ← hpre, ← hb]
  rw [e1, e2, e3]
  unfold atW
  simp only [List.length_append, List.length_singleton]
theorem addW_none {s : St} {rows : List (List V)} {r : List V} (hm : mayR r = 0) (hK : fullK rows + usedS s ≤ s.length) (h : ¬ fullK (rows ++ [r]) + usedS s ≤ s.length) : addW (storeK s (rowsB rows) (fullK rows)) (atW s rows) r = ((4, offW), s) := by
  have hk := fullK_snoc (s := s) rows r
  have hu := storeK_used (b := rowsB rows) hK
  have hl := storeK_length s (rowsB rows) (fullK rows)
  unfold addW
  rw [if_neg (by simp [atW]), if_neg (by simp [hm]), if_neg (by rw [hl, hu]; omega)]
  have e : dropS (storeK s (rowsB rows) (fullK rows)) (intsN (atW s rows).ids) = s := storeK_dropped _ _
  rw [e]
theorem addW_bad {s s' : St} {rows : List (List V)} {r : List V} (hm : mayR r ≠ 0) : addW s' (atW s rows) r = ((mayR r, atW s rows), s') := by
  unfold addW
  rw [if_neg (by simp [atW]), if_pos hm]
theorem cancelW_at {s : St} (rows : List (List V)) : cancelW (storeK s (rowsB rows) (fullK rows)) (atW s rows) = s := by
  unfold cancelW
  rw [if_neg (by simp [atW])]
  exact storeK_dropped _ _
theorem doneW_at {s : St} {rows : List (List V)} (hm : ∀ r ∈ rows, mayR r = 0) (hK : fullK rows + usedS s ≤ s.length) :
    (((doneW (storeK s (rowsB rows) (fullK rows)) (atW s rows)).1.2.1, (doneW (storeK s (rowsB rows) (fullK rows)) (atW s rows)).1.1), (doneW (storeK s (rowsB rows) (fullK rows)) (atW s rows)).2) = putR s rows ∧
    ((putR s rows).1.2 = 0 → (doneW (storeK s (rowsB rows) (fullK rows)) (atW s rows)).1.2.2 = rows.length) := by
  have hu := storeK_used (b := rowsB rows) hK
  have hl := storeK_length s (rowsB rows) (fullK rows)
  have hn := needS_nat (rowsB rows).length
  have hge := needS_ge (rowsB rows).length
  rw [putR_all hm]
  unfold doneW
  rw [if_neg (by simp [atW])]
  by_cases hb : (atW s rows).buf = []
  · rw [if_pos hb]
    have hlen : (rowsB rows).length ≤ 56 * fullK rows := List.drop_eq_nil_iff.1 hb
    have hf : fullK rows = (needS ((rowsB rows).length : Int)).toNat := by
      rw [hn]
      unfold fullK at hlen ⊢
      omega
    have hno : ¬ (s.length : Int) - usedS s < needS ((rowsB rows).length : Int) := by omega
    rw [if_neg hno, ← hf]
    exact ⟨rfl, fun _ => rfl⟩
  · rw [if_neg hb]
    have hlen : 56 * fullK rows < (rowsB rows).length := by
      rcases Nat.lt_or_ge (56 * fullK rows) (rowsB rows).length with h | h
      · exact h
      · exact absurd (List.drop_eq_nil_iff.2 h) hb
    have hf : (needS ((rowsB rows).length : Int)).toNat = fullK rows + 1 := by
      rw [hn]
      unfold fullK at hlen ⊢
      omega
    by_cases hr : 1 + usedS (storeK s (rowsB rows) (fullK rows)) ≤ (storeK s (rowsB rows) (fullK rows)).length
    · rw [if_pos hr]
      rw [hl, hu] at hr
      have hno : ¬ (s.length : Int) - usedS s < needS ((rowsB rows).length : Int) := by omega
      rw [if_neg hno, hf, idsK_add s (rowsB rows) (fullK rows) 1, storeK_add (rowsB rows) 1 hK]
      exact ⟨rfl, fun _ => rfl⟩
    · rw [if_neg hr]
      rw [hl, hu] at hr
      have hyes : (s.length : Int) - usedS s < needS ((rowsB rows).length : Int) := by omega
      rw [if_pos hyes]
      have e : dropS (storeK s (rowsB rows) (fullK rows)) (intsN (atW s rows).ids) = s := storeK_dropped _ _
      rw [e]
      exact ⟨rfl, fun h => by cases h⟩
theorem putR_at_bad {s : St} {rows : List (List V)} {j : Nat} (hj : j < rows.length) (h : ∀ r ∈ rows.take j, mayR r = 0) (hbad : mayR rows[j] ≠ 0) (hK : fullK (rows.take j) + usedS s ≤ s.length) : putR s rows = (([], mayR rows[j]), s) := putR_bad hj h hbad hK
theorem putR_at_full {s : St} {rows : List (List V)} {j : Nat} (hj : j < rows.length) (h : ∀ r ∈ rows.take (j + 1), mayR r = 0) (hu : usedS s ≤ s.length) (hK : ¬ fullK (rows.take j ++ [rows[j]]) + usedS s ≤ s.length) : putR s rows = (([], 4), s) := by
  rw [← List.take_succ_eq_append_getElem hj] at hK
  unfold fullK at hK
  refine putR_full (K := s.length - usedS s) h (by omega) ?_
  omega
end Go.Proofs.YtaoegcakefodaaaGreat

namespace Go.Proofs.YtaoegcakefodaaaGreat
open Go.RowKit Go.BigFrame
structure Pu where
  most : Int
  now : Int
  peak : Int
structure Pu.ok (s : Pu) : Prop where
  n0 : 0 ≤ s.now
  n1 : s.now ≤ s.most
  p0 : s.now ≤ s.peak
  p1 : s.peak ≤ s.most
  m1 : s.most ≤ 1048576
def takeP (s : Pu) (n : Int) : Int × Pu :=
  if n < 0 then (1, s) else if s.most - s.now < n then (5, s) else (0, ⟨s.most, s.now + n, max s.peak (s.now + n)⟩)
def giveP (s : Pu) (n : Int) : Int × Pu :=
  if n < 0 ∨ s.now < n then (1, s) else (0, ⟨s.most, s.now - n, s.peak⟩)
structure PurS (w : World) (p : Nat) (s : Pu) : Prop where
  c0 : w.cell? ⟨p, 0, none⟩ = some (.int .i64 s.most)
  c1 : w.cell? ⟨p, 1, none⟩ = some (.int .i64 s.now)
  c2 : w.cell? ⟨p, 2, none⟩ = some (.int .i64 s.peak)
  free : ∀ j, w.frozen? ⟨p, j, none⟩ = false
  ok : s.ok
theorem PurS.lt {w : World} {p : Nat} {s : Pu} (h : PurS w p s) : p < w.heap.size := lt_of_cell h.c0
theorem PurS.keep {w w' : World} {p : Nat} {s : Pu} (h : PurS w p s) (hb : w'.heap[p]? = w.heap[p]?) : PurS w' p s := by
  refine ⟨(World.cell?_of_block hb).trans h.c0, (World.cell?_of_block hb).trans h.c1, (World.cell?_of_block hb).trans h.c2, fun j => ?_, h.ok⟩
  have := h.free j
  unfold World.frozen? at this ⊢
  rw [hb]
  exact this
theorem PurS.onlyS {X : Nat → Prop} {w w' : World} {p : Nat} {s : Pu} (h : PurS w p s) (ho : OnlyS X w w') (hx : ¬ X p) : PurS w' p s := h.keep (ho.block p h.lt hx)
theorem PurS.ext {w w' : World} {p : Nat} {s : Pu} (h : PurS w p s) (hx : Ext w w') : PurS w' p s := h.onlyS (X := fun _ => False) (OnlyS.of_ext hx) id
theorem PurS.onlyP {w w' : World} {p q : Nat} {s : Pu} (h : PurS w p s) (ho : OnlyP q w w') (hne : p ≠ q) : PurS w' p s := h.onlyS (X := fun b => b = q) (OnlyS.of_onlyP ho rfl) hne
theorem PurS.setNow {w : World} {p : Nat} {s : Pu} (h : PurS w p s) (n : Int) (hk : (⟨s.most, n, s.peak⟩ : Pu).ok) : PurS (w.setCell ⟨p, 1, none⟩ (.int .i64 n)) p ⟨s.most, n, s.peak⟩ :=
  ⟨(cell_set_other (.inr (by decide))).trans h.c0, World.cell?_setCell_same _ _ _ h.c1, (cell_set_other (.inr (by decide))).trans h.c2, fun j => by simpa [go_sem] using h.free j, hk⟩
theorem PurS.setBoth {w : World} {p : Nat} {s : Pu} (h : PurS w p s) (n m : Int) (hk : (⟨s.most, n, m⟩ : Pu).ok) : PurS ((w.setCell ⟨p, 1, none⟩ (.int .i64 n)).setCell ⟨p, 2, none⟩ (.int .i64 m)) p ⟨s.most, n, m⟩ :=
  ⟨(cell_set_other (.inr (by decide))).trans ((cell_set_other (.inr (by decide))).trans h.c0), (cell_set_other (.inr (by decide))).trans (World.cell?_setCell_same _ _ _ h.c1), World.cell?_setCell_same _ _ _ ((cell_set_other (.inr (by decide))).trans h.c2), fun j => by simpa [go_sem] using h.free j, hk⟩
def PurNewed (most : Int) (w : World) (e : Ending) (w' : World) : Prop :=
  (0 ≤ most ∧ most ≤ 1048576 ∧ ∃ p, e = .returned (.tuple #[.pointer (some ⟨p, 0, none⟩), .int .i64 0]) ∧ PurS w' p ⟨most, 0, 0⟩ ∧ w.heap.size ≤ p ∧ Ext w w') ∨
  (¬ (0 ≤ most ∧ most ≤ 1048576) ∧ e = .returned (.tuple #[.pointer none, .int .i64 1]) ∧ Ext w w')
theorem new_purse (w : World) (t : TypeId) (most : Int) (h0 : 0 ≤ most) (h1 : most ≤ 1048576) : PurS (w.alloc (.cells #[.int .i64 most, .int .i64 0, .int .i64 0] t)) w.heap.size ⟨most, 0, 0⟩ := by
  have hc := row_new w [.int .i64 most, .int .i64 0, .int .i64 0] t
  refine ⟨?_, ?_, ?_, fun j => ?_, ⟨by simp, h0, by simp, h0, h1⟩⟩
  · exact hc 0 _ rfl
  · exact hc 1 _ rfl
  · exact hc 2 _ rfl
  · unfold World.frozen?
    rw [heap_alloc_new]
    simp
theorem purNew_any (most : Int) (w : World) (hm : -9223372036854775808 ≤ most ∧ most ≤ 9223372036854775807) :
    Calls Tryz.prog 17 #[.int .i64 most] w fun e w' => PurNewed most w e w' := by
  obtain ⟨hm0, hm1⟩ := hm
  by_cases h0 : most < 0
  · have HN := Lib.hid (show ¬ (0 ≤ most ∧ most ≤ 1048576) by omega)
    go_enter Tryz.func17, Tryz.ntmps17
    go_wp2_with fail
    go_ret2
    exact Or.inr ⟨HN.out, rfl, Ext.keeps.refl _⟩
  · by_cases h1 : 1048576 < most
    · have HN := Lib.hid (show ¬ (0 ≤ most ∧ most ≤ 1048576) by omega)
      go_enter Tryz.func17, Tryz.ntmps17
      go_wp2_with fail
      go_ret2
      exact Or.inr ⟨HN.out, rfl, Ext.keeps.refl _⟩
    · have HP := Lib.hid (new_purse w 78 most (by omega) (by omega))
      go_enter Tryz.func17, Tryz.ntmps17
      go_wp2_with fail
      go_ret2
      exact Or.inl ⟨by omega, by omega, w.heap.size, rfl, HP.out, Nat.le_refl _, ext_new w _⟩
theorem purLeft_any {w : World} {p : Nat} {s : Pu} (h : PurS w p s) :
    Calls Tryz.prog 45 #[.pointer (some ⟨p, 0, none⟩)] w fun e w' => e = .returned (.int .i64 (s.most - s.now)) ∧ Ext w w' := by
  obtain ⟨c0, c1, c2, fr, ⟨h0, h1, h2, h3, h4⟩⟩ := h
  clear fr
  go_enter Tryz.func45, Tryz.ntmps45
  go_wp2_with fail
  go_region
  go_wp2_with fail
  go_ret
  exact ⟨rfl, Ext.drew w⟩
theorem purGive_any {w : World} {p : Nat} {s : Pu} (n : Int) (h : PurS w p s) (hn : -9223372036854775808 ≤ n ∧ n ≤ 9223372036854775807) :
    Calls Tryz.prog 79 #[.pointer (some ⟨p, 0, none⟩), .int .i64 n] w fun e w' => e = .returned (.int .i64 (giveP s n).1) ∧ PurS w' p (giveP s n).2 ∧ OnlyP p w w' := by
  have H := Lib.hid h
  obtain ⟨c0, c1, c2, fr, ⟨h0, h1, h2, h3, h4⟩⟩ := h
  obtain ⟨n0, n1⟩ := hn
  unfold giveP
  by_cases hneg : n < 0
  · rw [if_pos (.inl hneg)]
    clear fr
    go_enter Tryz.func79, Tryz.ntmps79
    go_wp2_with fail
    go_ret
    exact ⟨rfl, H.out, OnlyP.refl _ _⟩
  · by_cases hbig : s.now < n
    · rw [if_pos (.inr hbig)]
      clear fr
      go_enter Tryz.func79, Tryz.ntmps79
      go_wp2_with fail
      go_ret
      exact ⟨rfl, H.out, OnlyP.refl _ _⟩
    · rw [if_neg (by omega)]
      have f1 := fr 1
      have HS := Lib.hid (H.out.setNow (s.now - n) ⟨by simp only; omega, by simp only; omega, by simp only; omega, h3, h4⟩)
      clear fr
      go_enter Tryz.func79, Tryz.ntmps79
      go_wp2_with fail
      go_ret
      exact ⟨rfl, HS.out, OnlyP.set p 1 _ _⟩
set_option maxRecDepth 100000 in
theorem purTake_any {w : World} {p : Nat} {s : Pu} (n : Int) (h : PurS w p s) (hn : -9223372036854775808 ≤ n ∧ n ≤ 9223372036854775807) :
    Calls Tryz.prog 24 #[.pointer (some ⟨p, 0, none⟩), .int .i64 n] w fun e w' => e = .returned (.int .i64 (takeP s n).1) ∧ PurS w' p (takeP s n).2 ∧ OnlyP p w w' := by
  have H := Lib.hid h
  obtain ⟨n0, n1⟩ := hn
  have hk := h.ok
  obtain ⟨h0, h1, h2, h3, h4⟩ := hk
  clear h
  unfold takeP
  by_cases hneg : n < 0
  · rw [if_pos hneg]
    go_enter Tryz.func24, Tryz.ntmps24
    go_wp2_with fail
    go_ret
    exact ⟨rfl, H.out, OnlyP.refl _ _⟩
  · rw [if_neg hneg]
    by_cases hbig : s.most - s.now < n
    · rw [if_pos hbig]
      go_enter Tryz.func24, Tryz.ntmps24
      go_wp2_with fail
      refine (purLeft_any H.out).mono ?_
      rintro e w1 ⟨rfl, hx⟩
      have HX := Lib.hid hx
      clear hx
      go_wp2_with fail
      go_ret
      exact ⟨rfl, H.out.ext HX.out, OnlyP.of_ext HX.out⟩
    · rw [if_neg hbig]
      go_enter Tryz.func24, Tryz.ntmps24
      go_wp2_with fail
      refine (purLeft_any H.out).mono ?_
      rintro e w1 ⟨rfl, hx⟩
      have HX := Lib.hid hx
      have H1 := Lib.hid (H.out.ext hx)
      clear hx
      obtain ⟨c0, c1, c2, fr, _⟩ := H1.out
      have f1 := fr 1
      have f2 := fr 2
      have HS1 := Lib.hid (World.cell?_setCell_same w1 ⟨p, 1, none⟩ (.int .i64 (s.now + n)) c1)
      have HS2 := Lib.hid ((cell_set_other (w := w1) (g := p) (i := 1) (j := 2) (b := p) (u := .int .i64 (s.now + n)) (.inr (by decide))).trans c2)
      clear fr
      by_cases hmx : s.peak < s.now + n
      · have HS := Lib.hid ((H1.out.setBoth (s.now + n) (s.now + n) ⟨by simp only; omega, by simp only; omega, by simp only; omega, by simp only; omega, h4⟩))
        have HM := Lib.hid (show max s.peak (s.now + n) = s.now + n by omega)
        go_wp2_with fail
        go_region
        go_wp2_with fail
        go_ret
        rw [HM.out]
        exact ⟨rfl, HS.out.ext (Ext.drew _), OnlyP.trans (OnlyP.of_ext HX.out) (OnlyP.trans (OnlyP.set p 1 _ _) (OnlyP.trans (OnlyP.set p 2 _ _) (OnlyP.of_ext (Ext.drew _))))⟩
      · have HS := Lib.hid ((H1.out.setBoth (s.now + n) s.peak ⟨by simp only; omega, by simp only; omega, by simp only; omega, by simp only; omega, h4⟩))
        have HM := Lib.hid (show max s.peak (s.now + n) = s.peak by omega)
        go_wp2_with fail
        go_region
        go_wp2_with fail
        go_ret
        rw [HM.out]
        exact ⟨rfl, HS.out.ext (Ext.drew _), OnlyP.trans (OnlyP.of_ext HX.out) (OnlyP.trans (OnlyP.set p 1 _ _) (OnlyP.trans (OnlyP.set p 2 _ _) (OnlyP.of_ext (Ext.drew _))))⟩
end Go.Proofs.YtaoegcakefodaaaGreat

namespace Go.Proofs.YtaoegcakefodaaaGreat
open Go.RowKit Go.BigFrame
theorem rowCost_snoc (vs : List V) (v : V) : rowCost (vs ++ [v]) = rowCost vs + (8 + (v.s.length : Int)) := by
  unfold rowCost
  rw [List.map_append, List.sum_append]
  simp
  omega
theorem rowCost_take {vs : List V} {j : Nat} (h : j < vs.length) : rowCost (vs.take (j + 1)) = rowCost (vs.take j) + (8 + ((vs[j]).s.length : Int)) := by
  rw [List.take_succ_eq_append_getElem h, rowCost_snoc]
theorem rowCost_le {vs : List V} (n m : Nat) (hn : vs.length ≤ n) (h : ∀ v ∈ vs, v.s.length ≤ m) : rowCost vs ≤ 8 + n * (8 + m) := by
  have key : ∀ l : List V, (∀ v ∈ l, v.s.length ≤ m) → (l.map fun v => 8 + v.s.length).sum ≤ l.length * (8 + m) := fun l => by
    induction l with
    | nil => intro _; simp
    | cons a t ih =>
      intro hl
      have h1 := ih fun v hv => hl v (by simp [hv])
      have h2 := hl a (by simp)
      rw [List.map_cons, List.sum_cons, List.length_cons, Nat.add_mul, Nat.one_mul]
      omega
  have h1 := key vs h
  have h2 : vs.length * (8 + m) ≤ n * (8 + m) := Nat.mul_le_mul_right _ hn
  unfold rowCost
  have h3 : (((n * (8 + m) : Nat)) : Int) = (n : Int) * (8 + (m : Int)) := by rw [Int.natCast_mul, Int.natCast_add]; rfl
  rw [← h3]
  omega
theorem rowCost_pos (vs : List V) : 8 ≤ rowCost vs := by unfold rowCost; omega
theorem wrap64_fits {n : Int} (h0 : 8 ≤ n) (h1 : n ≤ 9223372036854775807) : wrap64 n = n := by unfold wrap64; omega
theorem row_start (vs : List V) : Value.int .i64 8 = .int .i64 (wrap64 (rowCost (vs.take 0))) := by rw [List.take_zero]; exact congrArg _ (by simp [wrap64, rowCost])
theorem wrap_row (R : Int) (n : Nat) : wrap64 (R + (8 + (n : Int))) = wrap64 (wrap64 R + wrap64 (8 + n)) ∧ wrap64 (R + (8 + (n : Int))) = wrap64 (wrap64 (wrap64 R + 8) + n) := by
  unfold wrap64
  omega
set_option maxRecDepth 100000 in
theorem purRow_wrap (u : Value) (vs : List V) (w : World) (hu : RdVals w u vs) :
    Calls Tryz.prog 49 #[u] w fun e w' => e = .returned (.int .i64 (wrap64 (rowCost vs))) ∧ Ext w w' := by
  obtain ⟨ao, cap, rfl, h1, h2, hat⟩ := hu
  have HAT := Lib.hid hat
  obtain ⟨N, hN⟩ : ∃ N, vs.length = N := ⟨_, rfl⟩
  have HN := Lib.hid hN
  have HT := Lib.hid (show rowCost vs = rowCost (vs.take N) by rw [← hN, List.take_length])
  unfold maxLen at h2
  rw [hN] at h1 ⊢
  clear hat hN
  go_enter Tryz.func49, Tryz.ntmps49
  go_wp2_with fail
  go_loopw [3, 8] (fun s i wr => ∃ j : Nat, j ≤ N ∧ i = .int .i64 j ∧ s = .int .i64 (wrap64 (rowCost (vs.take j))) ∧ Ext w wr) (fun _ i _ => N - (intOf i).toNat)
  case atStart => exact ⟨0, Nat.zero_le _, rfl, row_start vs, Ext.keeps.refl _⟩
  case round =>
    obtain ⟨j, hj, rfl, rfl, hext⟩ := hrel
    have HE := Lib.hid hext
    clear hext
    by_cases hlt : j < N
    · have hjl : j < vs.length := by have := HN.out; omega
      obtain ⟨g, off, rfl, hcs⟩ := HAT.out j hjl
      have hk := fun i y hy => (HE.out.cell (lt_of_cell (hcs i y hy))).trans (hcs i y hy)
      have HS := Lib.hid (rowCost_take hjl)
      have c0 := hk 0 _ rfl
      have c1 := hk 1 _ rfl
      have c2 := hk 2 _ rfl
      rw [Nat.add_zero] at c0
      generalize vs[j] = v at c0 c1 c2 HS
      obtain ⟨vk, vn, vs'⟩ := v
      simp only at c0 c1 c2
      clear hcs hk hjl
      generalize hR : rowCost (vs.take j) = R at HS ⊢
      have HW := Lib.hid (wrap_row R vs'.length)
      go_wp2_with fail
      go_roundw
      case rel =>
        refine ⟨j + 1, by omega, by go_num, ?_, Ext.trans HE.out (ext_new _ _)⟩
        have h := HS.out
        simp only at h
        rw [h, HW.out.1]
      case measure => simp [intOf]; omega
    · have HJ := Lib.hid (show j = N by omega)
      go_wp2_with fail
      go_ret
      exact ⟨by rw [HT.out, HJ.out]; rfl, HE.out⟩
theorem purRow_any (u : Value) (vs : List V) (w : World) (hu : RdVals w u vs) (hc : rowCost vs ≤ 9223372036854775807) :
    Calls Tryz.prog 49 #[u] w fun e w' => e = .returned (.int .i64 (rowCost vs)) ∧ Ext w w' := by
  have h := purRow_wrap u vs w hu
  rwa [wrap64_fits (rowCost_pos vs) hc] at h
end Go.Proofs.YtaoegcakefodaaaGreat

namespace Go.Proofs.YtaoegcakefodaaaGreat
def runsG (most : Int) : List (List V) → Nat → Int → Nat × Int
  | [], n, _ => (n, 0)
  | r :: t, n, left =>
    if most < rowCost r then (0, 5)
    else if n = 0 ∨ left < rowCost r then runsG most t (n + 1) (most - rowCost r)
    else runsG most t n (left - rowCost r)
def runsR (rows : List (List V)) (most : Int) : Nat × Int := runsG most rows 0 0
theorem runsG_too {most : Int} {r : List V} {t : List (List V)} {n : Nat} {left : Int} (h : most < rowCost r) : runsG most (r :: t) n left = (0, 5) := if_pos h
theorem runsG_new {most : Int} {r : List V} {t : List (List V)} {n : Nat} {left : Int} (h : ¬ most < rowCost r) (h2 : n = 0 ∨ left < rowCost r) : runsG most (r :: t) n left = runsG most t (n + 1) (most - rowCost r) := by
  rw [runsG, if_neg h, if_pos h2]
theorem runsG_in {most : Int} {r : List V} {t : List (List V)} {n : Nat} {left : Int} (h : ¬ most < rowCost r) (h2 : ¬ (n = 0 ∨ left < rowCost r)) : runsG most (r :: t) n left = runsG most t n (left - rowCost r) := by
  rw [runsG, if_neg h, if_neg h2]
end Go.Proofs.YtaoegcakefodaaaGreat

