/-
  Texts of this proof, merged: PagesNew, PagesPut, PagesGet, Open, OpenActs, PagesBoth, Table, CrcStep, CrcOpen, CrcProg.
-/
import Derived.ProofKit
import Derived.OpenShut
import Derived.ShutString
import Derived.ChangeOld
import Derived.SliceStrings
import Derived.SizedLaws
import Derived.Lib.SmallJoins
import Derived.Deep.Slices
import Derived.Deep.Fields
import Derived.BigQuiet
import Derived.Lib.Strings
import Derived.Test.YtoagpaphghgkmaaZ2
import Derived.Test.YtoagpaphghgkmaaZ1
/-
  The contract of the document's own New.
-/
namespace Go.Proofs.Ytoagpaphghgkmaa
open Go.RowKit Go.BigFrame

theorem Try.info_page : (Try.prog.info? 91).map (fun i => (i.zero, i.size, i.bytes)) = some (some (.agg #[.bool false, .string ByteArray.empty]), 2, 24) := by kernel_rfl

def Newed (w : World) (n : Int) (e : Ending) (w' : World) : Prop :=
  (0 ≤ n ∧ n ≤ 4096 ∧ ∃ q g, e = .returned (.tuple #[.pointer (some ⟨q, 0, none⟩), .int .i64 0]) ∧ w.heap.size ≤ q ∧ w.heap.size ≤ g ∧ RSto w' q g (List.replicate n.toNat none) ∧ Ext w w') ∨
  (¬ (0 ≤ n ∧ n ≤ 4096) ∧ e = .returned (.tuple #[.pointer none, .int .i64 1]) ∧ Ext w w')

theorem refNew_any (n : Int) (w : World) (h0 : -9223372036854775808 ≤ n) (h1 : n ≤ 9223372036854775807) :
    Calls Try.prog 11 #[.int .i64 n] w (Newed w n) := by
  by_cases hn : n < 0
  · go_enter Try.func11, Try.ntmps11
    go_wp2_with fail
    go_ret2
    unfold Newed
    exact .inr ⟨by omega, rfl, Ext.keeps.refl _⟩
  · by_cases hm : 4096 < n
    · go_enter Try.func11, Try.ntmps11
      go_wp2_with fail
      go_ret2
      unfold Newed
      exact .inr ⟨by omega, rfl, Ext.keeps.refl _⟩
    · obtain ⟨N, rfl⟩ := Int.eq_ofNat_of_zero_le (show 0 ≤ n by omega)
      obtain ⟨i0, hi, hz0, hz1, hz2⟩ := info_parts Try.info_page
      have hmk := run_makeSlice (P := Try.prog) w 82 91 i0 _ Try.underlying82 hi hz0 .i64 .i64 N N (by omega) (Int.le_refl _) (by rw [hz1]; omega) (by rw [hz2]; omega) (by omega)
      rw [hz1] at hmk
      simp only [Int.toNat_natCast] at hmk
      have hcs : ∀ k j u, k < N → (pgC none)[j]? = some u → (madeCells (Value.agg #[.bool false, .string ByteArray.empty]).cells (N * 2))[k * 2 + j]? = some u := fun k j u hk hj => by
        have hj2 : j < 2 := (List.getElem?_eq_some_iff.1 hj).1
        have hlt : k * 2 + j < N * 2 := by omega
        have hmod : (k * 2 + j) % 2 = j := by omega
        unfold madeCells
        rw [Array.getElem?_map, Array.getElem?_range, if_pos hlt]
        simp only [Option.map_some]
        have hsz : (Value.agg #[.bool false, .string ByteArray.empty]).cells.size = 2 := rfl
        rw [hsz, hmod]
        match j, hj with
        | 0, hj => cases hj; rfl
        | 1, hj => cases hj; rfl
      generalize madeCells (Value.agg #[.bool false, .string ByteArray.empty]).cells (N * 2) = C at hmk hcs
      have HCS := Lib.hid hcs
      clear hcs
      go_enter Try.func11, Try.ntmps11
      go_wp2_with fail
      go_ret2
      unfold Newed
      simp only [Int.toNat_natCast]
      refine .inl ⟨by omega, by omega, w.heap.size + 1, w.heap.size, rfl, by omega, Nat.le_refl _, ⟨?_, fun i o hi j u hj => ?_, fun j => ?_, by omega, by simp; omega, by simp; omega⟩, ?_⟩
      · unfold World.cell?
        rw [heap_alloc2_new]
        simp
      · have ho : o = none ∧ i < N := by
          rw [List.getElem?_replicate] at hi
          split at hi
          · exact ⟨by cases hi; rfl, by assumption⟩
          · cases hi
        obtain ⟨rfl, hiN⟩ := ho
        unfold World.cell?
        rw [heap_alloc2_old]
        simpa using HCS.out i j u hiN hj
      · unfold World.frozen?
        rw [heap_alloc2_old]
        simp
      · exact Ext.trans (ext_new w _) (ext_new _ _)

end Go.Proofs.Ytoagpaphghgkmaa

/-
  The contract of the document's own Put.
-/
namespace Go.Proofs.Ytoagpaphghgkmaa
open Go.RowKit Go.BigFrame

theorem takeS_count : ∀ (n i : Nat) (s : St), n + usedS s ≤ s.length → (takeS i n s).1.length = n
  | 0, i, s, _ => by rw [takeS_zero]; rfl
  | n + 1, i, [], h => by simp [usedS] at h
  | n + 1, i, none :: t, h => by
    rw [takeS_none _ _ _ (by omega)]
    simp only [List.length_cons, Nat.add_sub_cancel]
    rw [takeS_count n (i + 1) t (by simp [usedS] at h ⊢; omega)]
  | n + 1, i, some p :: t, h => by
    rw [takeS_some _ _ _ _ (by omega)]
    exact takeS_count (n + 1) (i + 1) t (by simp [usedS] at h ⊢; omega)
theorem takeS_has : ∀ (n i : Nat) (s : St), ∀ id ∈ (takeS i n s).1, i ≤ id ∧ ∃ p, (takeS i n s).2[id - i]? = some (some p)
  | 0, i, s, id, h => by rw [takeS_zero] at h; cases h
  | n + 1, i, [], id, h => by rw [takeS_nil] at h; cases h
  | n + 1, i, none :: t, id, h => by
    rw [takeS_none _ _ _ (by omega)] at h ⊢
    simp only [Nat.add_sub_cancel, List.mem_cons] at h ⊢
    rcases h with rfl | h
    · exact ⟨Nat.le_refl _, _, by rw [Nat.sub_self]; rfl⟩
    · obtain ⟨h1, p, hp⟩ := takeS_has n (i + 1) t id h
      exact ⟨by omega, p, by rw [show id - i = (id - (i + 1)) + 1 by omega]; exact hp⟩
  | n + 1, i, some q :: t, id, h => by
    rw [takeS_some _ _ _ _ (by omega)] at h ⊢
    obtain ⟨h1, p, hp⟩ := takeS_has (n + 1) (i + 1) t id h
    exact ⟨by omega, p, by rw [show id - i = (id - (i + 1)) + 1 by omega]; exact hp⟩

theorem rd_part {bb off L cap lo hi : Nat} {l : List UInt8} {w : World} (hr : Rd w (.slice (some ⟨bb, off, none⟩) L cap) l) (hL : L = l.length) (h1 : lo ≤ hi) (h2 : hi ≤ L) :
    Rd w (.slice (some ⟨bb, off + lo, none⟩) (hi - lo) (cap - lo)) ((l.drop lo).take (hi - lo)) := by
  rcases hr with ⟨h0, _⟩ | ⟨x, cap', h3, h4, h5, h6⟩
  · cases h0
  · simp only [Value.slice.injEq, Option.some.injEq] at h3
    obtain ⟨rfl, _, rfl⟩ := h3
    rw [List.length_map] at h4
    refine .inr ⟨⟨bb, off + lo, none⟩, cap - lo, by rw [List.length_map, List.length_take, List.length_drop]; congr 1; omega, by rw [List.length_map, List.length_take, List.length_drop]; omega, by omega, fun i u hu => ?_⟩
    rw [List.map_take, List.map_drop, List.getElem?_take] at hu
    split at hu
    · rw [List.getElem?_drop] at hu
      have := h6 (lo + i) u hu
      rw [add_at] at this ⊢
      rw [Nat.add_assoc]
      exact this
    · cases hu

/-- Put's answer. -/
def Putted (w : World) (q g : Nat) (s : St) (l : List UInt8) (e : Ending) (w' : World) : Prop :=
  ∃ v, e = .returned (.tuple #[v, .int .i64 (putS s l).1.2]) ∧ w'.ownsRow w.heap.size 3 1 v (putS s l).1.1.length ((putS s l).1.1.map iv) ∧ RSto w' q g (putS s l).2 ∧ OnlyP g w w'

end Go.Proofs.Ytoagpaphghgkmaa

/-
  The contract of the document's own Get.
-/
namespace Go.Proofs.Ytoagpaphghgkmaa
open Go.RowKit Go.BigFrame

theorem readS_len {s : St} (hok : okS s) (id : Int) (h : (readS s id).2 = 0) : (readS s id).1.length = 56 := by
  unfold readS at h ⊢
  split at h
  · cases h
  · rename_i p hp
    split at h
    · rename_i he
      rw [if_pos he, List.length_take, hok.2 p (pageS_mem hp)]
      rfl
    · cases h
theorem readS_err {s : St} (id : Int) : (readS s id).2 = 0 ∨ (readS s id).2 = 2 ∨ (readS s id).2 = 6 := by
  unfold readS
  split
  · exact .inr (.inl rfl)
  · split
    · exact .inl rfl
    · exact .inr (.inr rfl)
theorem readsS_err (s : St) : ∀ ids : List Int, (readsS s ids).2 = 0 ∨ (readsS s ids).2 = 2 ∨ (readsS s ids).2 = 6
  | [] => .inl rfl
  | id :: t => by
    unfold readsS
    split
    · split
      · exact .inl rfl
      · exact readsS_err s t
    · exact readS_err id
theorem readsS_len {s : St} (hok : okS s) : ∀ ids : List Int, (readsS s ids).2 = 0 → (readsS s ids).1.length = 56 * ids.length
  | [], _ => rfl
  | id :: t, h => by
    unfold readsS at h ⊢
    split at h
    · rename_i h1
      rw [if_pos h1]
      split at h
      · rename_i h2
        rw [if_pos h2]
        simp only [List.length_append, List.length_cons]
        rw [readS_len hok id h1, readsS_len hok t h2]
        omega
      · rename_i h2
        exact absurd h h2
    · rename_i h1
      exact absurd h h1

/-- What stands ahead, read, and what is still to be read. -/
theorem readsS_step {s : St} {ids : List Int} {j : Nat} (hj : j < ids.length) :
    readsS s (ids.drop j) = if (readS s ids[j]).2 = 0 then (if (readsS s (ids.drop (j + 1))).2 = 0 then ((readS s ids[j]).1 ++ (readsS s (ids.drop (j + 1))).1, 0) else ([], (readsS s (ids.drop (j + 1))).2)) else ([], (readS s ids[j]).2) := by
  rw [List.drop_eq_getElem_cons hj]
  rfl

theorem str_append (x y : List UInt8) : (⟨x.toArray⟩ : ByteArray) ++ ⟨y.toArray⟩ = ⟨(x ++ y).toArray⟩ := by
  apply ByteArray.ext
  simp [ByteArray.data_append]

/-- What was read so far, and what comes behind it. -/
def gone (acc : List UInt8) (r : List UInt8 × Int) : List UInt8 × Int := if r.2 = 0 then (acc ++ r.1, 0) else ([], r.2)
theorem gone_nil (r : List UInt8 × Int) (h : r.2 ≠ 0 → r.1 = []) : gone [] r = r := by
  obtain ⟨a, b⟩ := r
  unfold gone
  simp only at h ⊢
  by_cases hb : b = 0
  · rw [if_pos hb, hb]; rfl
  · rw [if_neg hb, h hb]
theorem readsS_none (s : St) : ∀ ids : List Int, (readsS s ids).2 ≠ 0 → (readsS s ids).1 = []
  | [], h => absurd rfl h
  | id :: t, h => by
    unfold readsS at h ⊢
    split
    · rename_i h1
      rw [if_pos h1] at h
      split
      · rename_i h2
        rw [if_pos h2] at h
        exact absurd rfl h
      · rfl
    · rfl
theorem gone_step {s : St} {ids : List Int} {j : Nat} (hj : j < ids.length) (acc : List UInt8) (h : (readS s ids[j]).2 = 0) : gone acc (readsS s (ids.drop j)) = gone (acc ++ (readS s ids[j]).1) (readsS s (ids.drop (j + 1))) := by
  rw [readsS_step hj, if_pos h]
  unfold gone
  by_cases h2 : (readsS s (ids.drop (j + 1))).2 = 0
  · rw [if_pos h2, if_pos h2]
    simp
  · rw [if_neg h2, if_neg h2]
    simp only
    rw [if_neg h2]
theorem gone_bad {s : St} {ids : List Int} {j : Nat} (hj : j < ids.length) (acc : List UInt8) (h : (readS s ids[j]).2 ≠ 0) : gone acc (readsS s (ids.drop j)) = ([], (readS s ids[j]).2) := by
  rw [readsS_step hj, if_neg h]
  unfold gone
  rw [if_neg h]

/-- Get's answer. -/
def Gotten (w : World) (s : St) (ids : List Int) (n : Int) (e : Ending) (w' : World) : Prop :=
  e = .returned (.tuple #[.string ⟨(getS s ids n).1.toArray⟩, .int .i64 (getS s ids n).2]) ∧ Ext w w'

end Go.Proofs.Ytoagpaphghgkmaa

/-
  What an argument that came in as plain data is to a walk: a slice of numbers, of bytes, of strings, as the list that it reads as.
-/
namespace Go.Proofs.Ytoagpaphghgkmaa
open Go.ChangeShapes Go.WideShapes Go.ChangeAt Go.RowKit

section
variable {H : Type} {enc : TypeId × Value → H} {P : Program} {w : World} {base : Nat} {held : Bool}

theorem rdV_row {x : Addr} {len cap : Nat} {xs : List Value} (hl : len ≤ cap) (hm : cap ≤ maxLen) (hz : xs.length = cap) (hc : ∀ i u, xs[i]? = some u → w.cell? (x.add i) = some u) : RdV w (.slice (some x) len cap) (xs.take len) := by
  refine .inr ⟨x, cap, by rw [List.length_take, hz, Nat.min_eq_left hl], by rw [List.length_take]; omega, hm, fun i u hu => hc i u ?_⟩
  rw [List.getElem?_take] at hu
  split at hu
  · exact hu
  · cases hu

/-- A slice of numbers. -/
theorem read_ints {t e : TypeId} {k : IntKind} {v : Value} {d : DataW H} {ps : List MemPlace} (ht : P.underlying t = some (.slice e)) (he : P.underlying e = some (.int k)) (hc : P.cellsOf e = 1)
    (hv : v.cells.toList = [v]) (h : DataW.Trod enc P w base (fun _ => true) held t v d ps) :
    ∃ zs : List Int, RdV w v (zs.map (Value.int k)) ∧ ∀ n ∈ zs, (Lit.int k n).wf = true := by
  obtain ⟨fuel, hf⟩ := h
  rw [hv] at hf
  rcases open_ints ht he hc hf with ⟨hcs, _⟩ | ⟨x, l, c, zs, hcs, _, hl, hm, hz, _, hcell, hwz⟩
  · obtain rfl : v = .slice none 0 0 := by simpa using hcs
    exact ⟨[], RdV.nil w, by simp⟩
  · obtain rfl : v = .slice (some x) l c := by simpa using hcs
    refine ⟨zs.take l, ?_, fun n hn => hwz n (List.mem_of_mem_take hn)⟩
    rw [List.map_take]
    refine rdV_row hl hm (by simpa using hz) fun i u hu => ?_
    rw [List.getElem?_map] at hu
    obtain ⟨n, hn, rfl⟩ := Option.map_eq_some_iff.1 hu
    have hi : i < zs.length := (List.getElem?_eq_some_iff.1 hn).1
    rw [hcell i hi, List.getD_eq_getElem?_getD, hn]
    rfl

theorem bytes_of_wf : ∀ (zs : List Int), (∀ n ∈ zs, (Lit.int .u8 n).wf = true) → zs.map (Value.int .u8) = (zs.map fun n => UInt8.ofNat n.toNat).map bv
  | [], _ => rfl
  | n :: zs, h => by
    have hn := h n (by simp)
    have hb : 0 ≤ n ∧ n ≤ 255 := bounds_u8 hn
    simp only [List.map_cons]
    rw [bytes_of_wf zs fun m hm => h m (by simp [hm])]
    congr 1
    unfold bv
    rw [UInt8.toNat_ofNat']
    congr 1
    omega

/-- A slice of bytes. -/
theorem read_bytes {t e : TypeId} {v : Value} {d : DataW H} {ps : List MemPlace} (ht : P.underlying t = some (.slice e)) (he : P.underlying e = some (.int .u8)) (hc : P.cellsOf e = 1)
    (hv : v.cells.toList = [v]) (h : DataW.Trod enc P w base (fun _ => true) held t v d ps) : ∃ l : List UInt8, Rd w v l := by
  obtain ⟨zs, hr, hw⟩ := read_ints ht he hc hv h
  rw [bytes_of_wf zs hw] at hr
  exact ⟨_, hr⟩

/-- A slice of strings. -/
theorem read_strings {t e : TypeId} {v : Value} {d : DataW H} {ps : List MemPlace} (ht : P.underlying t = some (.slice e)) (he : P.underlying e = some .string) (hc : P.cellsOf e = 1)
    (hv : v.cells.toList = [v]) (h : DataW.Trod enc P w base (fun _ => true) held t v d ps) :
    ∃ ss : List ByteArray, RdV w v (ss.map Value.string) ∧ ∀ s ∈ ss, s.size ≤ maxLen := by
  obtain ⟨fuel, hf⟩ := h
  rw [hv] at hf
  rcases open_strings ht he hc hf with ⟨hcs, _⟩ | ⟨x, l, c, ss, hcs, _, hl, hm, hz, _, hcell, hws⟩
  · obtain rfl : v = .slice none 0 0 := by simpa using hcs
    exact ⟨[], RdV.nil w, by simp⟩
  · obtain rfl : v = .slice (some x) l c := by simpa using hcs
    refine ⟨ss.take l, ?_, fun n hn => hws n (List.mem_of_mem_take hn)⟩
    rw [List.map_take]
    refine rdV_row hl hm (by simpa using hz) fun i u hu => ?_
    rw [List.getElem?_map] at hu
    obtain ⟨n, hn, rfl⟩ := Option.map_eq_some_iff.1 hu
    have hi : i < ss.length := (List.getElem?_eq_some_iff.1 hn).1
    rw [hcell i hi, List.getD_eq_getElem?_getD, hn]
    rfl

end
end Go.Proofs.Ytoagpaphghgkmaa

/-
  What an argument that came in as an act of layer 5 (a struct of numbers and slices), or as a row of acts, is to a walk.
-/
namespace Go.Proofs.Ytoagpaphghgkmaa
open Go.ChangeShapes Go.WideShapes Go.ChangeAt Go.RowKit Go.Joins Go.Deep

/-- An act. -/
structure Act5 where
  k : Int
  at' : Int
  n : Int
  b : List UInt8
  l : List Int
  m : UInt8

/-- What may come in. -/
structure Act5.fits (a : Act5) : Prop where
  k : 0 ≤ a.k ∧ a.k ≤ 255
  at' : -9223372036854775808 ≤ a.at' ∧ a.at' ≤ 9223372036854775807
  n : -9223372036854775808 ≤ a.n ∧ a.n ≤ 9223372036854775807
  l : ∀ i ∈ a.l, -9223372036854775808 ≤ i ∧ i ≤ 9223372036854775807

/-- These cells are an act's. -/
def ActAt (w : World) (cs : List Value) (a : Act5) : Prop :=
  ∃ vb vl, cs = [.int .u8 a.k, .int .i64 a.at', .int .i64 a.n, vb, vl, .int .u8 a.m.toNat] ∧ Rd w vb a.b ∧ RdV w vl (a.l.map (Value.int .i64))

/-- A slice reads as these acts. -/
def RdActs (w : World) (u : Value) (az : List Act5) : Prop :=
  ∃ ao cap, u = .slice ao az.length cap ∧ az.length ≤ cap ∧ cap ≤ maxLen ∧ ∀ j, (hj : j < az.length) → ∃ g off cs, ao = some ⟨g, off, none⟩ ∧ ActAt w cs az[j] ∧ ∀ i y, cs[i]? = some y → w.cell? ⟨g, off + j * 6 + i, none⟩ = some y

section
variable {H : Type} {enc : TypeId × Value → H} {P : Program} {w : World} {base : Nat} {held : Bool}

theorem act_of {e tb tl : TypeId} {f0 f1 f2 f3 f4 f5 : Field} {cs : List Value} {fuel : Nat} {x : DataW H × List MemPlace} (hs : P.underlying e = some (.struct #[f0, f1, f2, f3, f4, f5]))
    (h0 : P.underlying f0.type = some (.int .u8)) (h1 : P.underlying f1.type = some (.int .i64)) (h2 : P.underlying f2.type = some (.int .i64)) (h3 : P.underlying f3.type = some (.slice tb)) (h3e : P.underlying tb = some (.int .u8)) (h3c : P.cellsOf tb = 1)
    (h4 : P.underlying f4.type = some (.slice tl)) (h4e : P.underlying tl = some (.int .i64)) (h4c : P.cellsOf tl = 1) (h5 : P.underlying f5.type = some (.int .u8))
    (hone : oneCellFields P #[f0, f1, f2, f3, f4, f5] = true) (hC : P.cellsOf e = 6) (h : DataW.trod enc P w base (fun _ => true) held fuel e cs = some x) :
    ∃ a : Act5, ActAt w cs a ∧ a.fits := by
  obtain ⟨xs, n, _, rfl, hl, hlen, hf⟩ := DataW.trod_struct hs h
  rw [hC] at hl
  obtain ⟨o0, q0⟩ := hone_of hone 0 f0 rfl
  obtain ⟨o1, q1⟩ := hone_of hone 1 f1 rfl
  obtain ⟨o2, q2⟩ := hone_of hone 2 f2 rfl
  obtain ⟨o3, q3⟩ := hone_of hone 3 f3 rfl
  obtain ⟨o4, q4⟩ := hone_of hone 4 f4 rfl
  obtain ⟨o5, q5⟩ := hone_of hone 5 f5 rfl
  have k0 := hf 0 f0 rfl
  have k1 := hf 1 f1 rfl
  have k2 := hf 2 f2 rfl
  have k3 := hf 3 f3 rfl
  have k4 := hf 4 f4 rfl
  have k5 := hf 5 f5 rfl
  rw [o0, q0] at k0
  rw [o1, q1] at k1
  rw [o2, q2] at k2
  rw [o3, q3] at k3
  rw [o4, q4] at k4
  rw [o5, q5] at k5
  match cs, hl with
  | [c0, c1, c2, c3, c4, c5], _ =>
    simp only [List.drop_zero, List.drop_succ_cons, List.take_succ_cons, List.take_zero] at k0 k1 k2 k3 k4 k5
    match xs, hlen with
    | [y0, y1, y2, y3, y4, y5], _ =>
      simp only [List.getElem?_cons_zero, List.getElem?_cons_succ] at k0 k1 k2 k3 k4 k5
      obtain ⟨z0, e0, _, w0⟩ := DataW.trod_int h0 k0
      obtain ⟨z1, e1, _, w1⟩ := DataW.trod_int h1 k1
      obtain ⟨z2, e2, _, w2⟩ := DataW.trod_int h2 k2
      obtain ⟨z5, e5, _, w5⟩ := DataW.trod_int h5 k5
      obtain ⟨a3, l3, p3, e3⟩ := slice_form h3 k3
      obtain ⟨a4, l4, p4, e4⟩ := slice_form h4 k4
      simp only [List.cons.injEq, and_true] at e0 e1 e2 e3 e4 e5
      subst e0 e1 e2 e3 e4 e5
      obtain ⟨b, rb⟩ := read_bytes (enc := enc) (w := w) (base := base) (held := held) (v := .slice a3 l3 p3) (d := y3.1) (ps := y3.2) h3 h3e h3c rfl ⟨n, k3⟩
      obtain ⟨zs, rz, wz⟩ := read_ints (enc := enc) (w := w) (base := base) (held := held) (v := .slice a4 l4 p4) (d := y4.1) (ps := y4.2) h4 h4e h4c rfl ⟨n, k4⟩
      have b0 := bounds_u8 w0
      have b1 := bounds_i64 w1
      have b2 := bounds_i64 w2
      have b5 := bounds_u8 w5
      refine ⟨⟨z0, z1, z2, b, zs, UInt8.ofNat z5.toNat⟩, ⟨_, _, ?_, rb, rz⟩, ⟨b0, b1, b2, fun i hi => bounds_i64 (wz i hi)⟩⟩
      have e : ((UInt8.ofNat z5.toNat).toNat : Int) = z5 := by
        rw [UInt8.toNat_ofNat']
        omega
      simp only
      rw [e]

theorem read_act {r : Reach} {b0 : Nat} {e tb tl : TypeId} {f0 f1 f2 f3 f4 f5 : Field} {v : Value} {d : DataW H} {p : List MemPlace} (hs : P.underlying e = some (.struct #[f0, f1, f2, f3, f4, f5]))
    (h0 : P.underlying f0.type = some (.int .u8)) (h1 : P.underlying f1.type = some (.int .i64)) (h2 : P.underlying f2.type = some (.int .i64)) (h3 : P.underlying f3.type = some (.slice tb)) (h3e : P.underlying tb = some (.int .u8)) (h3c : P.cellsOf tb = 1)
    (h4 : P.underlying f4.type = some (.slice tl)) (h4e : P.underlying tl = some (.int .i64)) (h4c : P.cellsOf tl = 1) (h5 : P.underlying f5.type = some (.int .u8))
    (hone : oneCellFields P #[f0, f1, f2, f3, f4, f5] = true) (hC : P.cellsOf e = 6) (hv : Value.okWide P w r b0 e v) (h : DataW.Trod enc P w base (fun _ => true) held e v d p) :
    ∃ (a : Act5) (cs : List Value), v = .agg cs.toArray ∧ ActAt w cs a ∧ a.fits := by
  obtain ⟨cs, rfl, hsz⟩ := okWide_struct hs hv
  obtain ⟨fuel, hf⟩ := h
  obtain ⟨a, ha, hfit⟩ := act_of hs h0 h1 h2 h3 h3e h3c h4 h4e h4c h5 hone hC hf
  exact ⟨a, _, rfl, ha, hfit⟩

theorem read_acts {t e tb tl : TypeId} {f0 f1 f2 f3 f4 f5 : Field} {v : Value} {d : DataW H} {ps : List MemPlace} (ht : P.underlying t = some (.slice e)) (hs : P.underlying e = some (.struct #[f0, f1, f2, f3, f4, f5]))
    (h0 : P.underlying f0.type = some (.int .u8)) (h1 : P.underlying f1.type = some (.int .i64)) (h2 : P.underlying f2.type = some (.int .i64)) (h3 : P.underlying f3.type = some (.slice tb)) (h3e : P.underlying tb = some (.int .u8)) (h3c : P.cellsOf tb = 1)
    (h4 : P.underlying f4.type = some (.slice tl)) (h4e : P.underlying tl = some (.int .i64)) (h4c : P.cellsOf tl = 1) (h5 : P.underlying f5.type = some (.int .u8))
    (hone : oneCellFields P #[f0, f1, f2, f3, f4, f5] = true) (hC : P.cellsOf e = 6) (hv : v.cells.toList = [v]) (h : DataW.Trod enc P w base (fun _ => true) held t v d ps) :
    ∃ az : List Act5, RdActs w v az ∧ ∀ a ∈ az, a.fits := by
  obtain ⟨fuel, hf⟩ := h
  rw [hv] at hf
  rcases open_slice ht hf with ⟨hcs, _⟩ | ⟨a, len, cap, m, n, D, Pl, hcs, _, hl, hm, hmm, _, hi⟩
  · obtain rfl : v = .slice none 0 0 := by simpa using hcs
    exact ⟨[], ⟨none, 0, rfl, Nat.le_refl _, by simp [maxLen], fun j hj => by simp at hj⟩, by simp⟩
  · obtain rfl : v = .slice (some a) len cap := by simpa using hcs
    have hmc : m = cap := by simpa using hmm
    have key : ∀ i, i < len → ∃ x : Act5, x.fits ∧ ∃ cs, ActAt w cs x ∧ ∀ j y, cs[j]? = some y → w.cell? ((a.add (i * 6)).add j) = some y := fun i hi' => by
      obtain ⟨cs, hc, ht'⟩ := hi i (by omega)
      rw [hC] at hc
      obtain ⟨_, hcl, hat⟩ := World.cells?_some hc
      obtain ⟨x, hx, hfit⟩ := act_of hs h0 h1 h2 h3 h3e h3c h4 h4e h4c h5 hone hC ht'
      refine ⟨x, hfit, _, hx, fun j y hj => ?_⟩
      have hj6 : j < 6 := by
        have h1 := (List.getElem?_eq_some_iff.1 hj).1
        rw [hcl] at h1
        exact h1
      rw [hat j hj6]
      exact hj
    have hall : ∃ az : List Act5, az.length = len ∧ ∀ i, (hi : i < az.length) → az[i].fits ∧ ∃ cs, ActAt w cs az[i] ∧ ∀ j y, cs[j]? = some y → w.cell? ((a.add (i * 6)).add j) = some y := by
      refine ⟨(List.range len).map fun i => if h : i < len then (key i h).choose else ⟨0, 0, 0, [], [], 0⟩, by simp, fun i hi' => ?_⟩
      have hil : i < len := by simpa using hi'
      rw [List.getElem_map, List.getElem_range, dif_pos hil]
      exact (key i hil).choose_spec
    obtain ⟨az, hlen, has⟩ := hall
    refine ⟨az, ⟨some a, cap, by rw [hlen], by omega, hm, fun j hj => ?_⟩, fun x hx => ?_⟩
    · obtain ⟨b, off, spot⟩ := a
      obtain ⟨_, cs0, ⟨vb0, vl0, rfl, _, _⟩, h00'⟩ := has 0 (by omega)
      have h00 := h00' 0 _ rfl
      have hsp : spot = none := by
        have h := World.cell?_spot h00
        cases spot with
        | none => rfl
        | some x =>
          exfalso
          simp [Addr.add] at h
      subst hsp
      obtain ⟨_, cs, hcs', hat⟩ := has j hj
      exact ⟨b, off, cs, rfl, hcs', fun i y hy => by
        have := hat i y hy
        rw [add_at, add_at] at this
        exact this⟩
    · obtain ⟨i, hi', rfl⟩ := List.mem_iff_getElem.1 hx
      exact (has i hi').1

end
end Go.Proofs.Ytoagpaphghgkmaa

/-
  What changes no block but some; bytes in memory of one's own.
-/
namespace Go.Proofs.Ytoagpaphghgkmaa
open Go.RowKit

theorem RSto.onlyS {X : Nat → Prop} {w w' : World} {q g : Nat} {s : St} (h : RSto w q g s) (ho : OnlyS X w w') (hq : ¬ X q) (hg : ¬ X g) : RSto w' q g s := by
  refine ⟨ho.cell h.top hq, fun i o hi j u hj => ho.cell (h.at' i o hi j u hj) hg, fun j => ?_, h.ne, Nat.lt_of_lt_of_le h.lt ho.size, h.few⟩
  have := h.free j
  unfold World.frozen? at this ⊢
  rw [ho.block g h.lt hg]
  exact this

/-- A slice of bytes in memory of one's own. -/
def OwnP (base : Nat) (w : World) (v : Value) (l : List UInt8) : Prop :=
  (v = .slice none 0 0 ∧ l = []) ∨ ∃ g off cap, v = .slice (some ⟨g, off, none⟩) l.length cap ∧ base ≤ g ∧ l.length ≤ cap ∧ cap ≤ maxLen ∧ (∀ i u, (l.map bv)[i]? = some u → w.cell? ⟨g, off + i, none⟩ = some u) ∧ ∀ i, i < l.length → w.frozen? ⟨g, off + i, none⟩ = false
theorem OwnP.rd {base : Nat} {w : World} {v : Value} {l : List UInt8} (h : OwnP base w v l) : Rd w v l := by
  rcases h with ⟨rfl, rfl⟩ | ⟨g, off, cap, rfl, _, h2, h3, h4, _⟩
  · exact Rd.nil w
  · exact .inr ⟨_, cap, by rw [List.length_map], by rw [List.length_map]; exact h2, h3, fun i u hu => by rw [add_at]; exact h4 i u hu⟩
theorem OwnP.of_owns {base : Nat} {w : World} {v : Value} {l : List UInt8} (h : w.ownsRow base 5 1 v l.length (l.map bv)) : OwnP base w v l := by
  rcases h.2 with ⟨h1, h2⟩ | ⟨g, cap, cur, rfl, h2, h3, h4, h5, _⟩
  · exact .inl ⟨h1, List.length_eq_zero_iff.1 h2⟩
  · exact .inr ⟨g, 0, cap, rfl, h2, h4, h5, fun i u hu => by
      have := h.cells (g := g) rfl i u hu
      rw [add_at] at this
      exact this, fun i _ => h.frozenAt _⟩
theorem OwnP.onlyS {X : Nat → Prop} {base : Nat} {w w' : World} {v : Value} {l : List UInt8} (h : OwnP base w v l) (ho : OnlyS X w w') (hx : ∀ k, v.ownBlock = some k → ¬ X k) : OwnP base w' v l := by
  rcases h with h | ⟨g, off, cap, rfl, h1, h2, h3, h4, h5⟩
  · exact .inl h
  · refine .inr ⟨g, off, cap, rfl, h1, h2, h3, fun i u hu => ho.cell (h4 i u hu) (hx g rfl), fun i hi => ?_⟩
    have hlt := lt_of_cell (h4 i (bv (l[i]'hi)) (by rw [List.getElem?_map, List.getElem?_eq_getElem hi]; rfl))
    have := h5 i hi
    unfold World.frozen? at this ⊢
    rw [ho.block g hlt (hx g rfl)]
    exact this

/-- A row of bytes of one's own, whatever they are. -/
def OwnQ (base : Nat) (w : World) (v : Value) (n : Nat) : Prop :=
  ∃ a cap, v = .slice a n cap ∧ n ≤ cap ∧ cap ≤ maxLen ∧ (0 < n → ∃ g off, a = some ⟨g, off, none⟩ ∧ base ≤ g ∧ (∀ i, i < n → ∃ z : Int, w.cell? ⟨g, off + i, none⟩ = some (.int .u8 z)) ∧ ∀ i, i < n → w.frozen? ⟨g, off + i, none⟩ = false)
theorem OwnQ.of_own {base : Nat} {w : World} {v : Value} {l : List UInt8} (h : OwnP base w v l) : OwnQ base w v l.length := by
  rcases h with ⟨rfl, rfl⟩ | ⟨g, off, cap, rfl, h1, h2, h3, h4, h5⟩
  · exact ⟨none, 0, rfl, Nat.le_refl _, by simp [maxLen], fun h => by simp at h⟩
  · exact ⟨_, cap, rfl, h2, h3, fun _ => ⟨g, off, rfl, h1, fun i hi => ⟨_, h4 i (bv (l[i]'hi)) (by rw [List.getElem?_map, List.getElem?_eq_getElem hi]; rfl)⟩, h5⟩⟩
theorem OwnQ.at {base n cap j : Nat} {w : World} {a : Option Addr} (h : OwnQ base w (.slice a n cap) n) (hj : j < n) : ∃ g off z, a = some ⟨g, off, none⟩ ∧ base ≤ g ∧ w.cell? ⟨g, off + j, none⟩ = some (.int .u8 z) ∧ w.frozen? ⟨g, off + j, none⟩ = false := by
  obtain ⟨a', cap', h1, h2, h3, h4⟩ := h
  obtain ⟨g', off', h5, k1, k3, k4⟩ := h4 (by omega)
  simp only [Value.slice.injEq] at h1
  obtain ⟨z, hz⟩ := k3 j hj
  exact ⟨g', off', z, by rw [h1.1, h5], k1, hz, k4 j hj⟩
theorem OwnQ.put {base g off n cap j : Nat} {w : World} (h : OwnQ base w (.slice (some ⟨g, off, none⟩) n cap) n) (hj : j < n) (z : Int) : OwnQ base (w.setCell ⟨g, off + j, none⟩ (.int .u8 z)) (.slice (some ⟨g, off, none⟩) n cap) n := by
  obtain ⟨a, cap', h1, h2, h3, h4⟩ := h
  obtain ⟨g', off', h5, k1, k3, k4⟩ := h4 (by omega)
  simp only [Value.slice.injEq] at h1
  obtain ⟨h1a, -, h1c⟩ := h1
  rw [h5] at h1a
  simp only [Option.some.injEq, Addr.mk.injEq, and_true] at h1a
  obtain ⟨rfl, rfl⟩ := h1a
  subst h1c
  refine ⟨_, cap, rfl, h2, h3, fun _ => ⟨g, off, rfl, k1, fun i hi => ?_, fun i hi => by simpa [go_sem] using k4 i hi⟩⟩
  obtain ⟨z', hz'⟩ := k3 i hi
  by_cases e : i = j
  · subst e
    exact ⟨z, World.cell?_setCell_same _ _ _ hz'⟩
  · exact ⟨z', by rw [cell_set_other (.inr (by omega))]; exact hz'⟩
/-- It stays while others change. -/
theorem OwnQ.onlyS {X : Nat → Prop} {base n : Nat} {w w' : World} {v : Value} (h : OwnQ base w v n) (ho : OnlyS X w w') (hx : ∀ k, v.ownBlock = some k → ¬ X k) : OwnQ base w' v n := by
  obtain ⟨a, cap, rfl, h2, h3, h4⟩ := h
  refine ⟨a, cap, rfl, h2, h3, fun hn => ?_⟩
  obtain ⟨g, off, rfl, k1, k3, k4⟩ := h4 hn
  refine ⟨g, off, rfl, k1, fun i hi => ?_, fun i hi => ?_⟩
  · obtain ⟨z, hz⟩ := k3 i hi
    exact ⟨z, ho.cell hz (hx g rfl)⟩
  · obtain ⟨z, hz⟩ := k3 i hi
    have := k4 i hi
    unfold World.frozen? at this ⊢
    rw [ho.block g (lt_of_cell hz) (hx g rfl)]
    exact this

/-- What an act does to a store. -/
def actS (s : St) (a : Act5) : St :=
  if a.k % 7 = 0 then (allocS s a.n).2 else if a.k % 7 = 1 then (freeS s a.at').2 else if a.k % 7 = 2 then (writeS s a.at' a.b).2 else if a.k % 7 = 3 then flipS s a.at' a.n a.m else if a.k % 7 = 4 then (putS s a.b).2 else if a.k % 7 = 5 then s else dropS s a.l
theorem actS_ok {s : St} (h : okS s) (a : Act5) : okS (actS s a) := by
  unfold actS
  split
  · exact allocS_ok h _
  split
  · exact freeS_ok h _
  split
  · exact writeS_ok h _ _
  split
  · exact flipS_ok h _ _ _
  split
  · exact putS_ok h _
  split
  · exact h
  · exact dropS_ok _ _ h

end Go.Proofs.Ytoagpaphghgkmaa

/-
  A sum behind a byte by a table: plain facts. No program.
-/
namespace Go.Proofs.Ytoagpaphghgkmaa

/-- The sum of one byte from 0, as a number. -/
def tab (k : Nat) : Nat := (feed 0#32 (bits8 (UInt8.ofNat k))).toNat

theorem tab_lt (k : Nat) : tab k < 4294967296 := (feed 0#32 (bits8 (UInt8.ofNat k))).isLt
theorem tab_zero : tab 0 = 0 := by decide +kernel
theorem tab_all : ∀ k < 128, tab (2 * k) = stN (tab k) 0 ∧ tab (2 * k + 1) = tab (2 * k) ^^^ 2168537515 := by decide +kernel
theorem top_all : ∀ n < 256, feed (BitVec.ofNat 32 (n * 16777216)) (bits8 (UInt8.ofNat n)) = 0#32 := by decide +kernel

theorem stp_low (s : BitVec 32) (h : s.toNat < 2147483648) : stp s false = BitVec.ofNat 32 (s.toNat * 2) := by
  apply BitVec.eq_of_toNat_eq
  rw [← stN_eq, BitVec.toNat_ofNat]
  unfold stN
  rw [if_pos (by rw [Nat.div_eq_of_lt h]; rfl)]
theorem feed_low (n : Nat) (k : Nat) (h : n * 2 ^ k < 4294967296) : feed (BitVec.ofNat 32 n) (List.replicate k false) = BitVec.ofNat 32 (n * 2 ^ k) := by
  induction k generalizing n with
  | zero => rw [Nat.pow_zero, Nat.mul_one]; rfl
  | succ k ih =>
    have h2 : n * 2 * 2 ^ k = n * 2 ^ (k + 1) := by rw [Nat.pow_succ, Nat.mul_assoc, Nat.mul_comm 2]
    have h3 : n * 2 ≤ n * 2 * 2 ^ k := Nat.le_mul_of_pos_right _ (Nat.two_pow_pos k)
    have hn : (BitVec.ofNat 32 n).toNat = n := by rw [BitVec.toNat_ofNat]; exact Nat.mod_eq_of_lt (by omega)
    rw [List.replicate_succ, feed_cons, stp_low _ (by rw [hn]; omega), hn, ih _ (by omega), h2]

theorem split_xor (n : Nat) : (n % 16777216) ^^^ (n / 16777216 * 16777216) = n := by
  refine Nat.eq_of_testBit_eq fun i => ?_
  rw [Nat.testBit_xor, show (16777216 : Nat) = 2 ^ 24 by rfl, Nat.testBit_mod_two_pow, Nat.mul_comm, Nat.testBit_two_pow_mul, Nat.testBit_div_two_pow]
  by_cases h : i < 24
  · rw [decide_eq_true h, decide_eq_false (by omega)]; simp
  · rw [decide_eq_false h, decide_eq_true (by omega), show i - 24 + 24 = i by omega]; simp

/-- A byte more, by the sum that the table has for what the byte and the sum's greatest one differ in. -/
theorem feed_byte (s : BitVec 32) (c : UInt8) :
    (feed s (bits8 c)).toNat = (s.toNat * 256 % 4294967296) ^^^ tab (s.toNat / 16777216 ^^^ c.toNat) := by
  have hs := s.isLt
  have hh : s.toNat / 16777216 < 256 := by omega
  have e1 : s = BitVec.ofNat 32 (s.toNat % 16777216) ^^^ BitVec.ofNat 32 (s.toNat / 16777216 * 16777216) := by
    apply BitVec.eq_of_toNat_eq
    have a1 : s.toNat % 16777216 % 2 ^ 32 = s.toNat % 16777216 := Nat.mod_eq_of_lt (by omega)
    have a2 : s.toNat / 16777216 * 16777216 % 2 ^ 32 = s.toNat / 16777216 * 16777216 := Nat.mod_eq_of_lt (by omega)
    rw [BitVec.toNat_xor, BitVec.toNat_ofNat, BitVec.toNat_ofNat, a1, a2, split_xor]
  have e2 : bits8 c = List.zipWith (· ^^ ·) (List.replicate 8 false) (bits8 c) := by
    simp [bits8, List.replicate]
  have e3 : feed s (bits8 c) = feed (BitVec.ofNat 32 (s.toNat % 16777216)) (List.replicate 8 false) ^^^ feed (BitVec.ofNat 32 (s.toNat / 16777216 * 16777216)) (bits8 c) := by
    rw [← feed_xor _ _ _ _ (by rw [List.length_replicate, bits8_length]), ← e1, ← e2]
  have e4 : bits8 c = List.zipWith (· ^^ ·) (bits8 (UInt8.ofNat (s.toNat / 16777216))) (bits8 (UInt8.ofNat (s.toNat / 16777216 ^^^ c.toNat))) := by
    rw [← xor_bits]
    congr 1
    apply UInt8.toNat_inj.1
    rw [UInt8.toNat_xor, UInt8.toNat_ofNat_of_lt' (by exact hh), UInt8.toNat_ofNat_of_lt' (Nat.xor_lt_two_pow (n := 8) hh c.toNat_lt), ← Nat.xor_assoc, Nat.xor_self, Nat.zero_xor]
  have e5 : feed (BitVec.ofNat 32 (s.toNat / 16777216 * 16777216)) (bits8 c) = feed 0#32 (bits8 (UInt8.ofNat (s.toNat / 16777216 ^^^ c.toNat))) := by
    have := feed_xor (bits8 (UInt8.ofNat (s.toNat / 16777216))) (bits8 (UInt8.ofNat (s.toNat / 16777216 ^^^ c.toNat))) (BitVec.ofNat 32 (s.toNat / 16777216 * 16777216)) 0#32 rfl
    rw [← e4, top_all _ hh, BitVec.xor_zero, BitVec.zero_xor] at this
    exact this
  have a3 : s.toNat % 16777216 * 2 ^ 8 < 4294967296 := by omega
  have a4 : (BitVec.ofNat 32 (s.toNat % 16777216 * 2 ^ 8)).toNat = s.toNat * 256 % 4294967296 := by rw [BitVec.toNat_ofNat]; omega
  rw [e3, e5, feed_low _ 8 a3, BitVec.toNat_xor, a4]
  rfl

end Go.Proofs.Ytoagpaphghgkmaa

/-
  The program's contracts: shift, ofBytes, stepper and what it makes.
-/
namespace Go.Proofs.Ytoagpaphghgkmaa
open Go.RowKit

theorem shift_any (n : Nat) (w : World) (hn : n < 4294967296) :
    Calls Try.prog 119 #[.int .u32 n] w fun e w' => e = .returned (.int .u32 (stN n 0)) ∧ w = w' := by
  by_cases h : n / 2147483648 = 1
  · have e : stN n 0 = (n * 2 % 4294967296) ^^^ 2168537515 := if_neg (by omega)
    have hd : (((n : Int) / 2147483648) == 1) = true := by rw [beq_iff_eq]; omega
    have hx := u32_xor (n * 2 % 4294967296) 2168537515 (by omega) (by omega)
    have HX := Lib.hid hx
    rw [e]
    clear h e hx
    go_enter Try.func119, Try.ntmps119
    go_wp2_with fail
    go_ret
    refine ⟨congrArg Ending.returned (congrArg (Value.int IntKind.u32) ?_), rfl⟩
    rw [← HX.out]
    rfl
  · have e : stN n 0 = n * 2 % 4294967296 := if_pos (by omega)
    have hd : (((n : Int) / 2147483648) == 1) = false := by rw [beq_eq_false_iff_ne]; omega
    rw [e]
    clear h e
    go_enter Try.func119, Try.ntmps119
    go_wp2_with fail
    go_ret
    exact ⟨rfl, rfl⟩

/-- The block has the table's first m sums, and sums behind them. -/
def TabTo (w : World) (g m : Nat) : Prop := ∃ cur : Array Value, w.heap[g]? = some (.cells cur 156 (0, 0)) ∧ cur.size = 256 ∧ (∀ k, k < m → cur[k]? = some (.int .u32 (tab k))) ∧ ∀ k, k < 256 → ∃ z : Int, cur[k]? = some (.int .u32 z)

theorem below_setRow {B g : Nat} {a w : World} (h : Below B a w) (hg : B ≤ g) (cs : Array Value) : Below B a (w.setRow g cs) :=
  h.trans ⟨rfl, rfl, rfl, by simp, fun k hk => setRow_other _ _ _ _ (by omega)⟩

theorem zero256 : (Try.prog.info? 156).map (fun i => (i.zero, i.size)) = some (some (.agg (Array.replicate 256 (.int .u32 0))), 256) := by kernel_rfl
theorem run_zero256 : ∃ Z : Array Value, (∀ w : World, (zeroValue 156).run Try.prog w = .ok (.agg Z) w) ∧ Z.size = 256 ∧ ∀ k, k < 256 → Z[k]? = some (.int .u32 0) := by
  refine ⟨Array.replicate 256 (.int .u32 0), fun w => ?_, by simp, fun k hk => by rw [Array.getElem?_replicate, if_pos hk]⟩
  have h := zero256
  cases hi : Try.prog.info? 156 with
  | none => rw [hi] at h; cases h
  | some i =>
    rw [hi] at h
    simp only [Option.map_some, Option.some.injEq, Prod.mk.injEq] at h
    simp [zeroValue, typeInfo, hi, h.1]

set_option maxRecDepth 100000 in
set_option maxHeartbeats 1000000 in
theorem ofBytes_any (w : World) :
    Calls Try.prog 116 #[] w fun e w' => (∃ cur : Array Value, e = .returned (.agg cur) ∧ cur.size = 256 ∧ ∀ k, k < 256 → cur[k]? = some (.int .u32 (tab k))) ∧ Ext w w' := by
  obtain ⟨Z, hZ, hZ1, hZ2⟩ := run_zero256
  have HZ1 := Lib.hid hZ1
  have HZ2 := Lib.hid hZ2
  clear hZ1 hZ2
  go_enter Try.func116, Try.ntmps116
  go_wp2_with fail
  obtain ⟨g, hg⟩ : ∃ g, g = w.heap.size := ⟨_, rfl⟩
  have HG := Lib.hid hg
  have HS := Lib.hid (show TabTo ((w.alloc (Obj.cells Z 156)).alloc (Obj.cells Z 156)) (g + 1) 1 ∧ ((w.alloc (Obj.cells Z 156)).alloc (Obj.cells Z 156)).heap[g]? = some (.cells Z 156 (0, 0)) by
    subst hg
    exact ⟨⟨Z, heap_alloc2_new _ _ _, HZ1.out, fun k hk => by rw [HZ2.out k (by omega), show k = 0 by omega, tab_zero]; rfl, fun k hk => ⟨0, HZ2.out k hk⟩⟩, heap_alloc2_old _ _ _⟩)
  have HB := Lib.hid (show Ext w ((w.alloc (Obj.cells Z 156)).alloc (Obj.cells Z 156)) from ((Below.refl _ w).alloc (Nat.le_refl _) _).alloc (by simp) _)
  rw [← hg]
  generalize (w.alloc (Obj.cells Z 156)).alloc (Obj.cells Z 156) = W at HS HB
  clear hg hZ
  go_loopw [3] (fun i wr => ∃ k : Nat, k ≤ 128 ∧ i = .int .i64 k ∧ TabTo wr (g + 1) (max 1 (2 * k)) ∧ wr.heap[g]? = some (.cells Z 156 (0, 0)) ∧ Ext w wr) (fun i _ => 128 - (intOf i).toNat)
  case atStart => exact ⟨0, Nat.zero_le _, rfl, HS.out.1, HS.out.2, HB.out⟩
  case round =>
    obtain ⟨k, hk, rfl, htab, hres, hext⟩ := hrel
    have HE := Lib.hid hext
    have HRES := Lib.hid hres
    by_cases hlt : k < 128
    · obtain ⟨cur, hcur, hsz, hcs, hall⟩ := htab
      have hc0 : wr.cell? ⟨g + 1, k, none⟩ = some (.int .u32 (tab k)) := by rw [cell_of_row _ _ _ _ _ _ hcur]; exact hcs k (by omega)
      obtain ⟨z1, hz1⟩ := hall (2 * k) (by omega)
      obtain ⟨z2, hz2⟩ := hall (2 * k + 1) (by omega)
      have hc1 : wr.cell? ⟨g + 1, 2 * k, none⟩ = some (.int .u32 z1) := by rw [cell_of_row _ _ _ _ _ _ hcur]; exact hz1
      have hc2 : wr.cell? ⟨g + 1, 2 * k + 1, none⟩ = some (.int .u32 z2) := by rw [cell_of_row _ _ _ _ _ _ hcur]; exact hz2
      have HALL := Lib.hid hall
      have hfr : ∀ j, wr.frozen? ⟨g + 1, j, none⟩ = false := fun j => by simp [World.frozen?, hcur]
      have HC := Lib.hid hcur
      have HSZ := Lib.hid hsz
      have HCS := Lib.hid hcs
      have htl := tab_lt k
      have HT := Lib.hid (tab_all k hlt)
      obtain ⟨T, hT⟩ : ∃ T, T = tab k := ⟨_, rfl⟩
      rw [← hT] at hc0 htl HT
      clear hcur hsz hcs hext hres hT hz1 hz2 hall
      go_wp2_with fail
      refine (shift_any T _ htl).mono ?_
      rintro e w1 ⟨rfl, rfl⟩
      go_wp2_with fail
      go_roundw
      case rel =>
        have hx : bits BinOp.xor IntKind.u32 ((stN T 0 : Nat) : Int) 2168537515 = ((stN T 0 ^^^ 2168537515 : Nat) : Int) := u32_xor (stN T 0) 2168537515 (by rw [← HT.out.1]; exact tab_lt _) (by decide)
        rw [hx, ← HT.out.1, ← HT.out.2]
        have h1 := heap_setCell_same wr (g + 1) (2 * k) cur 156 (.int .u32 (tab (2 * k))) HC.out
        have h2 := heap_setCell_same _ (g + 1) (2 * k + 1) _ 156 (.int .u32 (tab (2 * k + 1))) h1
        have hz := HSZ.out
        refine ⟨k + 1, by omega, by go_num, ⟨_, h2, by simpa using hz, fun j hj => ?_, fun j hj => ?_⟩, ?_, ?_⟩
        · by_cases e2 : j = 2 * k + 1
          · rw [e2, Array.getElem?_setIfInBounds_self_of_lt (by simp; omega)]
          · by_cases e1 : j = 2 * k
            · rw [Array.getElem?_setIfInBounds_ne (by omega), e1, Array.getElem?_setIfInBounds_self_of_lt (by omega)]
            · rw [Array.getElem?_setIfInBounds_ne (by omega), Array.getElem?_setIfInBounds_ne (by omega)]
              exact HCS.out j (by omega)
        · by_cases e2 : j = 2 * k + 1
          · rw [e2, Array.getElem?_setIfInBounds_self_of_lt (by simp; omega)]; exact ⟨_, rfl⟩
          · by_cases e1 : j = 2 * k
            · rw [Array.getElem?_setIfInBounds_ne (by omega), e1, Array.getElem?_setIfInBounds_self_of_lt (by omega)]; exact ⟨_, rfl⟩
            · rw [Array.getElem?_setIfInBounds_ne (by omega), Array.getElem?_setIfInBounds_ne (by omega)]
              exact HALL.out j hj
        · rw [Below.heap_setCell _ _ _ _ (by simp), Below.heap_setCell _ _ _ _ (by simp)]
          exact HRES.out
        · have hg := HG.out
          exact (Below.setCell (Below.setCell HE.out (by simp; omega) _) (by simp; omega) _)
      case measure => simp [intOf]; omega
    · have hk2 : k = 128 := by omega
      subst hk2
      obtain ⟨cur, hcur, hsz, hcs, hall⟩ := htab
      have HCS := Lib.hid hcs
      have HSZ := Lib.hid hsz
      have hone : cur.all (·.oneCell') = true := by
        rw [Array.all_eq_true]
        intro i hi
        obtain ⟨z, hz⟩ := hall i (by omega)
        rw [Array.getElem?_eq_getElem hi] at hz
        simp only [Option.some.injEq] at hz
        rw [hz]; rfl
      have hinfo : (Try.prog.info? 156).map (·.size) = some cur.size := by rw [hsz]; kernel_rfl
      have hZs : Z.size = cur.size := by rw [hsz, HZ1.out]
      have HH := Lib.hid (⟨hone, hinfo, hZs⟩ : cur.all (·.oneCell') = true ∧ (Try.prog.info? 156).map (·.size) = some cur.size ∧ Z.size = cur.size)
      clear hcs hsz hall hone hinfo hZs hext hres
      have HCUR := Lib.hid hcur
      clear hcur
      go_wp2_with (first
        | (refine wpList_load_row rfl 156 (.tmp 1) rfl (g + 1) rfl 156 cur (0, 0) _ HCUR.out Try.underlying156 rfl HH.out.2.1 ?_)
        | (refine wpList_store_row rfl 156 (.tmp 0) (.tmp 23) rfl g cur rfl rfl 156 Z HRES.out HH.out.2.1 HH.out.2.2 HH.out.1 ?_))
      refine bodyPost_ret (v := .agg cur) ?_ rfl ⟨⟨cur, rfl, HSZ.out, fun k hk => HCS.out k (by omega)⟩, ?_⟩
      · exact results_cell_row (P := Try.prog) (fn := Try.f116) rfl _ _ g 156 cur (0, 0) _ rfl (setRow_heap _ _ _ _ _ _ HRES.out) Try.underlying156 rfl HH.out.2.1
      · have hg := HG.out
        exact below_setRow HE.out (by omega) _

/-- The function value leads to a table. -/
def Steps (w : World) (fv : Value) : Prop := ∃ (g : Nat) (cur : Array Value), fv = .func (.func 117) #[] #[.pointer (some ⟨g, 0, none⟩)] ∧ w.heap[g]? = some (.cells cur 156 (0, 0)) ∧ cur.size = 256 ∧ ∀ k, k < 256 → cur[k]? = some (.int .u32 (tab k))

theorem oneCell_of {cur : Array Value} {f : Nat → Value} (hsz : cur.size = 256) (h : ∀ k, k < 256 → cur[k]? = some (f k)) (hf : ∀ k, (f k).oneCell' = true) : cur.all (·.oneCell') = true := by
  rw [Array.all_eq_true]
  intro i hi
  have hz := h i (by omega)
  rw [Array.getElem?_eq_getElem hi] at hz
  simp only [Option.some.injEq] at hz
  rw [hz]; exact hf i

set_option maxRecDepth 100000 in
set_option maxHeartbeats 1000000 in
theorem stepper_any (w : World) :
    Calls Try.prog 112 #[] w fun e w' => (∃ fv, e = .returned fv ∧ Steps w' fv) ∧ Ext w w' := by
  obtain ⟨Z, hZ, hZ1, hZ2⟩ := run_zero256
  have HZ1 := Lib.hid hZ1
  clear hZ1 hZ2
  go_enter Try.func112, Try.ntmps112
  go_wp2_with fail
  refine (ofBytes_any _).mono ?_
  rintro e w1 ⟨⟨cur, rfl, hsz, hcs⟩, hb⟩
  have hone := oneCell_of hsz hcs (fun _ => rfl)
  have hinfo : (Try.prog.info? 156).map (·.size) = some cur.size := by rw [hsz]; kernel_rfl
  have hZs : Z.size = cur.size := by rw [hsz, HZ1.out]
  have HH := Lib.hid (⟨hone, hinfo, hZs⟩ : cur.all (·.oneCell') = true ∧ (Try.prog.info? 156).map (·.size) = some cur.size ∧ Z.size = cur.size)
  have HSZ := Lib.hid hsz
  have HCS := Lib.hid hcs
  have HB := Lib.hid hb
  clear hsz hcs hb hone hinfo hZs
  go_wp2_with (refine wpList_store_row rfl 156 (.tmp 1) (.tmp 2) rfl w1.heap.size cur rfl rfl 156 Z (heap_alloc_new _ _) HH.out.2.1 HH.out.2.2 HH.out.1 ?_)
  go_ret
  exact ⟨⟨_, rfl, _, cur, rfl, setRow_heap _ _ _ _ _ _ (heap_alloc_new _ _), HSZ.out, HCS.out⟩, ext_trans HB.out (below_setRow ((Below.refl _ w1).alloc (Nat.le_refl _) _) (Nat.le_refl _) _)⟩

theorem u8_xorN (a b : Nat) (ha : a < 256) (hb : b < 256) : bits BinOp.xor IntKind.u8 (a : Int) (b : Int) = ((a ^^^ b : Nat) : Int) := by
  have h : a ^^^ b < 2 ^ 8 := Nat.xor_lt_two_pow ha hb
  have ha' : a % 2 ^ IntKind.u8.bits = a := Nat.mod_eq_of_lt ha
  have hb' : b % 2 ^ IntKind.u8.bits = b := Nat.mod_eq_of_lt hb
  simp only [bits, BitVec.ofInt_natCast, BitVec.toNat_xor, BitVec.toNat_ofNat, ha', hb']
  exact IntWalk.u8_in _ ⟨by omega, by omega⟩

set_option maxRecDepth 100000 in
set_option maxHeartbeats 1000000 in
theorem next_any (g : Nat) (cur : Array Value) (s : BitVec 32) (c : UInt8) (w : World) (hg : w.heap[g]? = some (.cells cur 156 (0, 0))) (_hsz : cur.size = 256) (hcs : ∀ k, k < 256 → cur[k]? = some (.int .u32 (tab k))) :
    Calls Try.prog 117 #[.int .u32 s.toNat, .int .u8 c.toNat, .pointer (some ⟨g, 0, none⟩)] w fun e w' => e = .returned (.int .u32 (feed s (bits8 c)).toNat) ∧ w = w' := by
  have hs := s.isLt
  have hc := c.toNat_lt
  have HF := Lib.hid (feed_byte s c)
  generalize (feed s (bits8 c)).toNat = F at HF ⊢
  generalize s.toNat = n at hs HF ⊢
  generalize c.toNat = m at hc HF ⊢
  have hx : bits BinOp.xor IntKind.u8 ((n : Int) / 16777216) (m : Int) = ((n / 16777216 ^^^ m : Nat) : Int) := u8_xorN (n / 16777216) m (by omega) hc
  have hi : n / 16777216 ^^^ m < 256 := Nat.xor_lt_two_pow (n := 8) (show n / 16777216 < 256 by omega) hc
  generalize n / 16777216 ^^^ m = i at HF hx hi
  have hcell : w.cell? ⟨g, i, none⟩ = some (.int .u32 (tab i)) := by rw [cell_of_row _ _ _ _ _ _ hg]; exact hcs i hi
  have HX := Lib.hid (u32_xor (n * 256 % 4294967296) (tab i) (by omega) (tab_lt i))
  have htl := tab_lt i
  generalize tab i = T at HF hcell HX htl
  clear hg _hsz hcs
  go_enter Try.func117, Try.ntmps117
  go_wp2_with fail
  go_ret
  refine ⟨congrArg Ending.returned (congrArg (Value.int IntKind.u32) ?_), rfl⟩
  rw [HF.out, ← HX.out]
  rfl

end Go.Proofs.Ytoagpaphghgkmaa

/-
  The contract of the document's own Open.
-/
namespace Go.Proofs.Ytoagpaphghgkmaa
open Go.RowKit Go.BigFrame

/-- What is opened. -/
def opens (l : List UInt8) : Bool := decide (4 ≤ l.length) && decide (sumOf l = 0#32)
def opened (l : List UInt8) : List UInt8 := if opens l = true then l.take (l.length - 4) else []
/-- A call that opens. -/
def Opened (w : World) (l : List UInt8) (e : Ending) (w' : World) : Prop := ∃ u, e = .returned (.tuple #[u, .int .i64 (if opens l = true then 0 else 6)]) ∧ Rd w' u (opened l) ∧ Ext w w'

theorem opened_no {w w' : World} {l : List UInt8} (h : opens l = false) (hb : Ext w w') : Opened w l (.returned (.tuple #[.slice none 0 0, .int .i64 6])) w' := by
  refine ⟨.slice none 0 0, ?_, ?_, hb⟩
  · rw [h]; rfl
  · unfold opened; rw [h]; exact Rd.nil _
theorem opened_yes {w w' : World} {l : List UInt8} {u : Value} (h : opens l = true) (hr : Rd w' u (l.take (l.length - 4))) (hb : Ext w w') : Opened w l (.returned (.tuple #[u, .int .i64 0])) w' := by
  refine ⟨u, ?_, ?_, hb⟩
  · rw [h]; rfl
  · unfold opened; rw [h]; exact hr

end Go.Proofs.Ytoagpaphghgkmaa

/-
  The program's contracts: More, Of, inBytes.
-/
namespace Go.Proofs.Ytoagpaphghgkmaa
open Go.RowKit

set_option maxRecDepth 100000 in
set_option maxHeartbeats 1000000 in
theorem More_cells (s : BitVec 32) (ao : Option Addr) (l : List UInt8) (L cap : Nat) (w : World) (hL : L = l.length) (_h1 : L ≤ cap) (_h2 : cap ≤ 9223372036854775807)
    (ca : ∀ i u, (l.map bv)[i]? = some u → ∃ x, ao = some x ∧ w.cell? (x.add i) = some u) :
    Calls Try.prog 100 #[.int .u32 s.toNat, .slice ao L cap] w fun e w' => e = .returned (.int .u32 (more s l).toNat) ∧ Ext w w' := by
  have CA := Lib.hid ca
  have HL := Lib.hid hL
  clear ca hL
  by_cases h0 : L = 0
  · have hl0 : l = [] := List.length_eq_zero_iff.1 (by rw [← HL.out, h0])
    subst hl0
    subst h0
    go_enter Try.func100, Try.ntmps100
    go_wp2_with fail
    go_ret
    exact ⟨rfl, Below.refl _ _⟩
  · obtain ⟨n, hn⟩ : ∃ n, n = s.toNat := ⟨_, rfl⟩
    have HN := Lib.hid hn
    rw [← hn]
    have hL0 : ((L : Int) == 0) = false := by rw [beq_eq_false_iff_ne]; omega
    clear hn
    go_enter Try.func100, Try.ntmps100
    go_wp2_with fail
    refine (stepper_any _).mono ?_
    rintro e w1 ⟨⟨fv, rfl, g, cur, rfl, hg, hsz, hcs⟩, hb⟩
    have HG := Lib.hid hg
    have HSZ := Lib.hid hsz
    have HCS := Lib.hid hcs
    have HB := Lib.hid hb
    clear hg hsz hcs hb
    go_wp2_with fail
    go_loopw [0, 15] (fun m i wr => ∃ j : Nat, j ≤ L ∧ i = .int .i64 j ∧ m = .int .u32 (more s (l.take j)).toNat ∧ w1 = wr) (fun _ i _ => L - (intOf i).toNat)
    case atStart => exact ⟨0, Nat.zero_le _, rfl, by rw [List.take_zero, more_nil, HN.out], rfl⟩
    case round =>
      obtain ⟨j, hj, rfl, rfl, rfl⟩ := hrel
      by_cases hlt : j < L
      · have hjl : j < l.length := by have := HL.out; omega
        obtain ⟨x, rfl, hc⟩ := CA.out j (bv l[j]) (by rw [List.getElem?_map, List.getElem?_eq_getElem hjl]; rfl)
        have HST := Lib.hid (more_step s l j hjl)
        have hc : w1.cell? (x.add j) = some (bv l[j]) := by rw [HB.out.cell (lt_of_cell hc)]; exact hc
        unfold bv at hc
        have HNX := Lib.hid (next_any g cur (more s (l.take j)) l[j] w1 HG.out HSZ.out HCS.out)
        generalize l[j] = c at hc HST HNX
        generalize more s (l.take j) = S at HST HNX ⊢
        obtain ⟨C, hC⟩ : ∃ C, C = c.toNat := ⟨_, rfl⟩
        rw [← hC] at hc HNX
        obtain ⟨m, hm⟩ : ∃ m, m = S.toNat := ⟨_, rfl⟩
        rw [← hm] at HNX ⊢
        clear hC hm
        go_wp2_with fail
        refine HNX.out.mono ?_
        rintro e w2 ⟨rfl, rfl⟩
        go_wp2_with fail
        go_roundw
        case rel =>
          refine ⟨j + 1, by omega, by go_num, ?_, trivial⟩
          rw [HST.out]
        case measure => simp [intOf]; omega
      · have hjL : l.take j = l := List.take_of_length_le (by have := HL.out; omega)
        rw [hjL]
        go_wp2_with fail
        go_ret
        exact ⟨rfl, HB.out⟩

theorem More_any (s : BitVec 32) (v : Value) (l : List UInt8) (w : World) (hr : Rd w v l) :
    Calls Try.prog 100 #[.int .u32 s.toNat, v] w fun e w' => e = .returned (.int .u32 (more s l).toNat) ∧ Ext w w' := by
  obtain ⟨ao, cap, rfl, h1, h2, ca⟩ := RdV.cellsAt hr
  unfold maxLen at h2
  exact More_cells s ao l _ cap w (by rw [List.length_map]) h1 (by omega) ca

theorem Of_any (v : Value) (l : List UInt8) (w : World) (hr : Rd w v l) :
    Calls Try.prog 82 #[v] w fun e w' => e = .returned (.int .u32 (sumOf l).toNat) ∧ Ext w w' := by
  have HM := Lib.hid (More_any 0xFFFFFFFF#32 v l w hr)
  go_enter Try.func82, Try.ntmps82
  go_wp2_with fail
  refine HM.out.mono ?_
  rintro e w1 ⟨rfl, hb⟩
  have HB := Lib.hid hb
  clear hb
  go_wp2_with fail
  go_ret
  exact ⟨rfl, HB.out⟩

/-- A sum's four bytes as an array. -/
def arr4 (s : BitVec 32) : Value := .agg ((be4 s).map bv).toArray

set_option maxRecDepth 100000 in
set_option maxHeartbeats 1000000 in
theorem inBytes_any (s : BitVec 32) (w : World) :
    Calls Try.prog 81 #[.int .u32 s.toNat] w fun e w' => e = .returned (arr4 s) ∧ Ext w w' := by
  have hs := s.isLt
  have HV := Lib.hid (be4_values s)
  obtain ⟨A, hA⟩ : ∃ A, A = arr4 s := ⟨_, rfl⟩
  have HA := Lib.hid hA
  rw [← hA]
  generalize s.toNat = n at hs HV ⊢
  clear hA
  go_enter Try.func81, Try.ntmps81
  go_wp2_with fail
  refine bodyPost_ret (v := A) ?_ rfl ⟨rfl, (Below.refl _ w).alloc (Nat.le_refl _) _⟩
  rw [HA.out]
  unfold arr4
  rw [HV.out]
  exact results_cell_row (P := Try.prog) (fn := Try.f81) rfl _ _ w.heap.size 130 _ (0, 0) _ rfl (heap_alloc_new _ _) Try.underlying130 rfl (by kernel_rfl)

end Go.Proofs.Ytoagpaphghgkmaa
