/-
  Texts of this proof, merged.
-/
import Derived.Test.YtaoegcakefodaaaGreatZ1
import Derived.Test.YtaoegcakefodaaaGreatZ2
import Derived.Test.YtaoegcakefodaaaGreatZ3
import Derived.Test.YtaoegcakefodaaaGreatZ4
import Derived.Test.YtaoegcakefodaaaGreatZ5
import Derived.Test.YtaoegcakefodaaaGreatZ6
import Derived.Test.YtaoegcakefodaaaGreatZ7
namespace Go.Proofs.YtaoegcakefodaaaGreat
open Go.RowKit
theorem takeS_ok : ∀ (n i : Nat) (s : St), (∀ p, some p ∈ s → p.length = 64) → ∀ p, some p ∈ (takeS i n s).2 → p.length = 64
  | 0, _, _, h, p, hp => by
    simp only [takeS] at hp
    exact h p hp
  | _ + 1, _, [], _, p, hp => by cases hp
  | n + 1, i, none :: t, h, p, hp => by
    simp only [takeS, List.mem_cons, Option.some.injEq] at hp
    rcases hp with rfl | hp
    · exact layP_length i [] (by simp)
    · exact takeS_ok n (i + 1) t (fun q hq => h q (.tail _ hq)) p hp
  | n + 1, i, some q :: t, h, p, hp => by
    simp only [takeS, List.mem_cons, Option.some.injEq] at hp
    rcases hp with rfl | hp
    · exact h p (.head _)
    · exact takeS_ok (n + 1) (i + 1) t (fun q hq => h q (.tail _ hq)) p hp
theorem allocS_ok {s : St} (h : okS s) (n : Int) : okS (allocS s n).2 := by
  unfold allocS
  split
  · exact h
  · split
    · exact h
    · exact ⟨by rw [takeS_length]; exact h.1, takeS_ok _ _ s h.2⟩
end Go.Proofs.YtaoegcakefodaaaGreat

namespace Go.Proofs.YtaoegcakefodaaaGreat
open Go.RowKit Go.BigFrame
theorem owns_take {base : Nat} {e : TypeId} {w : World} {a : Option Addr} {n cap : Nat} {xs : List Value} (h : w.ownsRow base e 1 (.slice a n cap) n xs) (k : Nat) (hk : k ≤ n) : w.ownsRow base e 1 (.slice a k cap) k (xs.take k) := by
  obtain ⟨h1, h2⟩ := h
  refine ⟨by rw [List.length_take, h1]; omega, ?_⟩
  rcases h2 with ⟨h3, h4⟩ | ⟨g, c, cur, h3, h4, h5, h6, h7, h8, h9⟩
  · simp only [Value.slice.injEq] at h3
    obtain ⟨rfl, h10, rfl⟩ := h3
    have : k = 0 := by omega
    subst this
    exact .inl ⟨rfl, rfl⟩
  · simp only [Value.slice.injEq] at h3
    obtain ⟨rfl, -, rfl⟩ := h3
    refine .inr ⟨g, cap, cur, rfl, h4, h5, by omega, h7, h8, ?_⟩
    rw [← h9, List.take_take]
    congr 1
    omega
theorem ownBlock_len (a : Option Addr) (n m c : Nat) : (Value.slice a n c).ownBlock = (Value.slice a m c).ownBlock := by cases a <;> rfl
end Go.Proofs.YtaoegcakefodaaaGreat

namespace Go.Proofs.YtaoegcakefodaaaGreat
open Go.RowKit Go.BigFrame
set_option maxRecDepth 100000 in
theorem refRight_any (v : V) (hv : v.fits) (hl : v.s.length ≤ 9223372036854775807) (w : World) :
    Calls Tryz.prog 60 #[v.val] w fun e w' => e = .returned (.bool (rightV v)) ∧ Ext w w' := by
  obtain ⟨k, n, s⟩ := v
  have hk0 : 0 ≤ k := hv.k0
  have hk1 : k ≤ 255 := hv.k1
  unfold rightV V.val
  simp only at hl ⊢
  clear hv
  by_cases h0 : k = 0
  · subst h0
    by_cases hn : n = 0
    · subst hn
      cases s with
      | nil =>
        go_enter Tryz.func60, Tryz.ntmps60
        go_wp2_with fail
        go_ret
        exact ⟨rfl, ext_one w _⟩
      | cons c t =>
        have hq : (c :: t == []) = false := rfl
        go_enter Tryz.func60, Tryz.ntmps60
        go_wp2_with fail
        go_ret
        exact ⟨rfl, ext_one w _⟩
    · have hq : (n == 0) = false := beq_eq_false_iff_ne.2 hn
      have hd : decide (n = 0) = false := decide_eq_false hn
      rw [hd]
      clear hn hd
      go_enter Tryz.func60, Tryz.ntmps60
      go_wp2_with fail
      go_ret
      exact ⟨by simp, ext_one w _⟩
  · by_cases h1 : k = 1
    · subst h1
      clear h0
      by_cases hn : n = 0
      · subst hn
        cases s with
        | nil =>
          go_enter Tryz.func60, Tryz.ntmps60
          go_wp2_with fail
          go_ret
          exact ⟨rfl, ext_one w _⟩
        | cons c t =>
          go_enter Tryz.func60, Tryz.ntmps60
          go_wp2_with fail
          go_ret
          exact ⟨rfl, ext_one w _⟩
      · by_cases hn1 : n = 1
        · subst hn1
          cases s with
          | nil =>
            go_enter Tryz.func60, Tryz.ntmps60
            go_wp2_with fail
            go_ret
            exact ⟨rfl, ext_one w _⟩
          | cons c t =>
            go_enter Tryz.func60, Tryz.ntmps60
            go_wp2_with fail
            go_ret
            exact ⟨rfl, ext_one w _⟩
        · have hq : (n == 0) = false := beq_eq_false_iff_ne.2 hn
          have hq1 : (n == 1) = false := beq_eq_false_iff_ne.2 hn1
          rw [decide_eq_false hn, decide_eq_false hn1]
          clear hn hn1
          go_enter Tryz.func60, Tryz.ntmps60
          go_wp2_with fail
          go_ret
          exact ⟨by simp, ext_one w _⟩
    · by_cases h2 : k = 2
      · subst h2
        clear h0 h1
        cases s with
        | nil =>
          go_enter Tryz.func60, Tryz.ntmps60
          go_wp2_with fail
          go_ret
          exact ⟨rfl, ext_one w _⟩
        | cons c t =>
          go_enter Tryz.func60, Tryz.ntmps60
          go_wp2_with fail
          go_ret
          exact ⟨rfl, ext_one w _⟩
      · by_cases h3 : k = 3
        · subst h3
          clear h0 h1 h2
          by_cases hn : n = 0
          · subst hn
            have HD := Lib.hid (show decide ((s.length : Int) ≤ 1024) = decide (s.length ≤ 1024) from decide_eq_decide.2 (by omega))
            go_enter Tryz.func60, Tryz.ntmps60
            go_wp2_with fail
            go_ret
            refine ⟨?_, ext_one w _⟩
            show Ending.returned (Value.bool (decide ((s.length : Int) ≤ 1024))) = _
            rw [HD.out]
            simp
          · have hq : (n == 0) = false := beq_eq_false_iff_ne.2 hn
            rw [decide_eq_false hn]
            clear hn
            go_enter Tryz.func60, Tryz.ntmps60
            go_wp2_with fail
            go_ret
            exact ⟨by simp, ext_one w _⟩
        · have q0 : (k == 0) = false := beq_eq_false_iff_ne.2 h0
          have q1 : (k == 1) = false := beq_eq_false_iff_ne.2 h1
          have q2 : (k == 2) = false := beq_eq_false_iff_ne.2 h2
          have q3 : (k == 3) = false := beq_eq_false_iff_ne.2 h3
          rw [decide_eq_false h0, decide_eq_false h1, decide_eq_false h2, decide_eq_false h3]
          clear h0 h1 h2 h3
          go_enter Tryz.func60, Tryz.ntmps60
          go_wp2_with fail
          go_ret
          exact ⟨by simp, ext_one w _⟩
set_option maxRecDepth 100000 in
theorem refCompare_any (a b : V) (ha : a.fits) (hb : b.fits) (w : World) :
    Calls Tryz.prog 71 #[a.val, b.val] w fun e w' => e = .returned (.int .i64 (cmpV a b)) ∧ Ext w w' := by
  obtain ⟨k, n, s⟩ := a
  obtain ⟨k', n', s'⟩ := b
  unfold cmpV cmpN cmpB V.val
  simp only
  clear ha hb
  by_cases hk : k = k'
  · subst hk
    rw [if_pos rfl]
    by_cases hn : n = n'
    · subst hn
      rw [if_pos rfl]
      by_cases hs : s = s'
      · subst hs
        rw [if_pos rfl]
        go_enter Tryz.func71, Tryz.ntmps71
        go_wp2_with fail
        go_ret
        exact ⟨rfl, ext_two w _ _⟩
      · have q : (s == s') = false := beq_eq_false_iff_ne.2 hs
        rw [if_neg hs]
        clear hs
        by_cases hl : Op.bytesLess s s' = true
        · rw [if_pos hl]
          go_enter Tryz.func71, Tryz.ntmps71
          go_wp2_with fail
          go_ret
          exact ⟨rfl, ext_two w _ _⟩
        · have hl' : Op.bytesLess s s' = false := by simpa using hl
          rw [if_neg hl]
          clear hl
          go_enter Tryz.func71, Tryz.ntmps71
          go_wp2_with fail
          go_ret
          exact ⟨rfl, ext_two w _ _⟩
    · have q : (n == n') = false := beq_eq_false_iff_ne.2 hn
      rw [if_neg hn]
      by_cases hl : n < n'
      · rw [if_neg hn, if_pos hl]
        clear hn
        go_enter Tryz.func71, Tryz.ntmps71
        go_wp2_with fail
        go_ret
        exact ⟨rfl, ext_two w _ _⟩
      · rw [if_neg hn, if_neg hl]
        clear hn
        go_enter Tryz.func71, Tryz.ntmps71
        go_wp2_with fail
        go_ret
        exact ⟨rfl, ext_two w _ _⟩
  · have q : (k == k') = false := beq_eq_false_iff_ne.2 hk
    rw [if_neg hk]
    by_cases hl : k < k'
    · rw [if_neg hk, if_pos hl]
      clear hk
      by_cases hn : n = n'
      · subst hn
        go_enter Tryz.func71, Tryz.ntmps71
        go_wp2_with fail
        go_ret
        exact ⟨rfl, ext_two w _ _⟩
      · have qn : (n == n') = false := beq_eq_false_iff_ne.2 hn
        clear hn
        go_enter Tryz.func71, Tryz.ntmps71
        go_wp2_with fail
        go_ret
        exact ⟨rfl, ext_two w _ _⟩
    · rw [if_neg hk, if_neg hl]
      clear hk
      by_cases hn : n = n'
      · subst hn
        go_enter Tryz.func71, Tryz.ntmps71
        go_wp2_with fail
        go_ret
        exact ⟨rfl, ext_two w _ _⟩
      · have qn : (n == n') = false := beq_eq_false_iff_ne.2 hn
        clear hn
        go_enter Tryz.func71, Tryz.ntmps71
        go_wp2_with fail
        go_ret
        exact ⟨rfl, ext_two w _ _⟩
end Go.Proofs.YtaoegcakefodaaaGreat

namespace Go.Proofs.YtaoegcakefodaaaGreat
open Go.RowKit Go.BigFrame
theorem HdRows.oneCell {w : World} {hs : List Value} {rs : List (List V)} (h : HdRows w hs rs) : ∀ x ∈ hs, x.oneCell' = true := fun x hx => by
  obtain ⟨a, n, c, rfl⟩ := h.shape x hx
  cases a <;> rfl
theorem RdRows.headsV {w : World} {v : Value} {rs : List (List V)} (h : RdRows w v rs) (hn : ∀ cap, v = .slice none 0 cap → cap = 0) : ∃ hs, HdRows w hs rs ∧ RdV w v hs := by
  obtain ⟨ao, cap, rfl, -, -⟩ := h.shape
  obtain ⟨hs, h1, h2, h3, h4, h5⟩ := h.heads
  refine ⟨hs, h1, ?_⟩
  cases ao with
  | none =>
    have h0 : rs.length = 0 := by
      rcases Nat.eq_zero_or_pos rs.length with h0 | h0
      · exact h0
      · obtain ⟨g, off, e, -⟩ := h5 0 (hs[0]'(h1.1 ▸ h0)) (List.getElem?_eq_getElem (h1.1 ▸ h0))
        cases e
    have hnil : hs = [] := List.eq_nil_of_length_eq_zero (h1.1.trans h0)
    subst hnil
    rw [h0] at hn ⊢
    exact .inl ⟨by rw [hn cap rfl], rfl⟩
  | some x =>
    refine .inr ⟨x, cap, by rw [h1.1], by rw [h1.1]; exact h3, h4, fun i u hu => ?_⟩
    obtain ⟨g, off, e, hc⟩ := h5 i u hu
    rw [Option.some.inj e, add_at]
    exact hc
def AnsR (base : Nat) (w : World) (u : Value) (rs : List (List V)) : Prop := ∃ hs, w.ownsRow base 58 1 u hs.length hs ∧ HdRows w hs rs
theorem AnsR.ext {base : Nat} {w w' : World} {u : Value} {rs : List (List V)} (h : AnsR base w u rs) (hx : Ext w w') : AnsR base w' u rs := by
  obtain ⟨hs, h1, h2⟩ := h
  exact ⟨hs, owns_extS h1 hx, h2.mono hx⟩
theorem AnsR.rd {base : Nat} {w : World} {u : Value} {rs : List (List V)} (h : AnsR base w u rs) : RdRows w u rs := by
  obtain ⟨hs, h1, h2⟩ := h
  exact RdRows.of_heads (RdV.of_owns h1) h2
theorem empty_rows (w : World) : (w.alloc (.cells #[] 58)).ownsRow w.heap.size 58 1 (.slice (some ⟨w.heap.size, 0, none⟩) 0 0) 0 [] := World.ownsRow_made w #[] 0 (Nat.le_refl _) (by simp [maxLen]) rfl
theorem AnsR.rv {base : Nat} {w : World} {u : Value} {rs : List (List V)} (h : AnsR base w u rs) : RdRV w u rs := by
  obtain ⟨hs, h1, h2⟩ := h
  exact ⟨hs, RdV.of_owns h1, h2⟩
theorem RdRV.of_rows {w : World} {u : Value} {rs : List (List V)} (h : RdRows w u rs) (hz : ∀ n c, u = .slice none n c → n = 0 ∧ c = 0) : RdRV w u rs := by
  obtain ⟨hs, h1, h2⟩ := h.headsV fun cap e => (hz 0 cap e).2
  exact ⟨hs, h2, h1⟩
end Go.Proofs.YtaoegcakefodaaaGreat

namespace Go.Proofs.YtaoegcakefodaaaGreat
open Go.RowKit Go.BigFrame
set_option maxRecDepth 100000 in
set_option maxHeartbeats 1000000 in
theorem refMay17_any (u : Value) (r : List V) (w : World) (hu : RdVals w u r) (hf : ∀ v ∈ r, v.fits ∧ v.s.length ≤ maxLen) :
    Calls Tryz.prog 35 #[u] w fun e w' => e = .returned (.int .i64 (mayR r)) ∧ Ext w w' := by
  obtain ⟨ao, cap, rfl, -, -⟩ := hu.shape
  obtain ⟨-, h1, h2, hrc⟩ := hu.plain
  have HRC := Lib.hid hrc
  have HF := Lib.hid hf
  unfold maxLen at h2
  obtain ⟨N, hN⟩ : ∃ N, r.length = N := ⟨_, rfl⟩
  have HN := Lib.hid hN
  rw [hN] at h1 ⊢
  clear hu hrc hf hN
  by_cases h32 : 32 < N
  · have HR := Lib.hid (show mayR r = 3 by unfold mayR; rw [if_pos (by have := HN.out; omega)])
    have d1 : decide (32 < N) = true := decide_eq_true h32
    have d1' : decide ((32 : Int) < (N : Int)) = true := decide_eq_true (by omega)
    go_enter Tryz.func35, Tryz.ntmps35
    go_wp2_with fail
    go_ret
    exact ⟨by rw [HR.out]; rfl, Ext.keeps.refl _⟩
  · have d1 : decide (32 < N) = false := decide_eq_false h32
    have d1' : decide ((32 : Int) < (N : Int)) = false := decide_eq_false (by omega)
    have HR := Lib.hid (show mayR r = if r.all rightV = true then 0 else 7 by unfold mayR; rw [if_neg (by have := HN.out; omega)])
    go_enter Tryz.func35, Tryz.ntmps35
    go_wp2_with fail
    go_loopw [3] (fun i wr => ∃ j : Nat, j ≤ N ∧ i = .int .i64 j ∧ (∀ q, (hq : q < r.length) → q < j → rightV r[q] = true) ∧ Ext w wr) (fun i _ => N - (intOf i).toNat)
    case atStart => exact ⟨0, Nat.zero_le _, rfl, fun q _ h => absurd h (Nat.not_lt_zero _), Ext.keeps.refl _⟩
    case round =>
      obtain ⟨j, hj, rfl, hq, hx⟩ := hrel
      have HQ := Lib.hid hq
      have HX := Lib.hid hx
      clear hq hx
      by_cases hlt : j < N
      · have hjl : j < r.length := by have := HN.out; omega
        obtain ⟨g, off, rfl, c0, c1, c2⟩ := HRC.out j hjl
        have x0 := (HX.out.cell (lt_of_cell c0)).trans c0
        have x1 := (HX.out.cell (lt_of_cell c1)).trans c1
        have x2 := (HX.out.cell (lt_of_cell c2)).trans c2
        have hfj := HF.out r[j] (List.getElem_mem hjl)
        have HRT := Lib.hid (refRight_any r[j] hfj.1 hfj.2 wr)
        have HNO := Lib.hid (show rightV r[j] = false → mayR r = 7 from fun h => by
          rw [HR.out, if_neg]
          intro h2
          rw [List.all_eq_true] at h2
          rw [h2 _ (List.getElem_mem hjl)] at h
          cases h)
        have HNX := Lib.hid (show rightV r[j] = true → ∀ q, (hq : q < r.length) → q < j + 1 → rightV r[q] = true from fun h q hq hqj => by
          by_cases e : q = j
          · subst e; exact h
          · exact HQ.out q hq (by omega))
        generalize rightV r[j] = T at HRT HNO HNX
        generalize r[j] = v at x0 x1 x2 HRT
        obtain ⟨vk, vn, vs⟩ := v
        unfold V.val at HRT
        simp only at x0 x1 x2 HRT
        clear c0 c1 c2 hfj
        go_wp2_with fail
        refine HRT.out.mono ?_
        rintro e w3 ⟨rfl, x3⟩
        have HX3 := Lib.hid (Ext.trans HX.out x3)
        clear x3
        cases T with
        | false =>
          have HNO2 := Lib.hid (HNO.out rfl)
          go_wp2_with fail
          go_ret
          exact ⟨by rw [HNO2.out]; rfl, HX3.out⟩
        | true =>
          have HNX2 := Lib.hid (HNX.out rfl)
          go_wp2_with fail
          go_roundw
          case rel => exact ⟨j + 1, by omega, by go_num, HNX2.out, HX3.out⟩
          case measure => simp [intOf]; omega
      · have HOK := Lib.hid (show mayR r = 0 by
          rw [HR.out, if_pos]
          rw [List.all_eq_true]
          intro v hv
          obtain ⟨i, hi, rfl⟩ := List.mem_iff_getElem.1 hv
          exact HQ.out i hi (by have := HN.out; omega))
        go_wp2_with fail
        go_ret
        exact ⟨by rw [HOK.out]; rfl, HX.out⟩
end Go.Proofs.YtaoegcakefodaaaGreat

namespace Go.Proofs.YtaoegcakefodaaaGreat
open Go.RowKit Go.BigFrame
def textsR (r : List V) : Nat := (r.map fun v => v.s.length).sum
def textsL (rows : List (List V)) : Nat := (rows.map textsR).sum
theorem textsR_snoc (r : List V) (v : V) : textsR (r ++ [v]) = textsR r + v.s.length := by unfold textsR; simp
theorem textsL_snoc (l : List (List V)) (r : List V) : textsL (l ++ [r]) = textsL l + textsR r := by unfold textsL; simp
end Go.Proofs.YtaoegcakefodaaaGreat

namespace Go.Proofs.YtaoegcakefodaaaGreat
open Go.RowKit Go.BigFrame
def Few18 (rows : List (List V)) : Prop := rows.length ≤ 60 ∧ (∀ r ∈ rows, r.length ≤ 40 ∧ mayR r = 0 ∧ ∀ v ∈ r, v.fits ∧ v.s.length ≤ 300) ∧ textsL rows ≤ 6000
theorem Few18.fit {rows : List (List V)} (h : Few18 rows) : FitB rows := ⟨by have := h.1; omega, fun r hr => ⟨by have := (h.2.1 r hr).1; omega, fun v hv => ⟨((h.2.1 r hr).2.2 v hv).1, by have := ((h.2.1 r hr).2.2 v hv).2; omega⟩⟩⟩
set_option maxRecDepth 60000 in
set_option maxHeartbeats 2000000 in
theorem few18_any (u : Value) (ls : List (List V)) (w0 w : World) (hu0 : RdRV w0 u ls) (hw : Ext w0 w) (hf : ∀ r ∈ ls, ∀ v ∈ r, v.fits ∧ v.s.length ≤ maxLen) :
    Calls Tryz.prog 10 #[u] w fun e w' => (∃ v M, e = .returned v ∧ RdRV w0 v (ls.take M) ∧ Few18 (ls.take M)) ∧ Ext w w' := by
  have hu := (hu0.mono hw).rd
  obtain ⟨ao, cap, rfl, -, -⟩ := hu.shape
  obtain ⟨fh, hfh, -, h1, h2, hat⟩ := hu.heads
  have HAT := Lib.hid hat
  have HFH := Lib.hid hfh
  have HU := Lib.hid hu0

  have HF := Lib.hid hf
  obtain ⟨N, hN⟩ : ∃ N, ls.length = N := ⟨_, rfl⟩
  have HN := Lib.hid hN
  unfold maxLen at h2
  rw [hN] at h1 HU ⊢
  have HTK := Lib.hid (fun K (hK : K ≤ N) => HU.out.take K hK)
  clear hN hu hu0 hw hf hat hfh
  go_enter Tryz.func10, Tryz.ntmps10
  go_wp2_with fail
  go_loopw [3, 4, 5, 7, 10] (fun lf _ _ _ i wr => ∃ j L : Nat, j ≤ N ∧ i = .int .i64 j ∧ lf = .int .i64 L ∧ L ≤ 6000 ∧ Hid (j ≤ 60 ∧ (∀ r ∈ ls.take j, r.length ≤ 40 ∧ mayR r = 0 ∧ ∀ v ∈ r, v.fits ∧ v.s.length ≤ 300) ∧ textsL (ls.take j) + L = 6000) ∧ Ext w wr) (fun _ _ _ _ i _ => N - (intOf i).toNat)
  case atStart => exact ⟨0, 6000, Nat.zero_le _, rfl, rfl, Nat.le_refl _, Lib.hid ⟨by omega, fun r hr => by simp at hr, rfl⟩, Ext.keeps.refl _⟩
  case round =>
    obtain ⟨j, L, hj, rfl, rfl, hL, HFW, hx⟩ := hrel
    have HX := Lib.hid hx
    have HFEW := Lib.hid (show Few18 (ls.take j) from ⟨Nat.le_trans (List.length_take_le _ _) HFW.out.1, HFW.out.2.1, by have := HFW.out.2.2; omega⟩)
    clear hx
    by_cases hlt : j < N
    · have hjl : j < ls.length := by have := HN.out; omega
      obtain ⟨a1, a2, a3, ha, hra⟩ := HFH.out.get j hjl
      obtain ⟨g, off, rfl, c0⟩ := HAT.out j _ ha
      have x0 := (HX.out.cell (lt_of_cell c0)).trans c0
      have HFJ := Lib.hid (HF.out ls[j] (List.getElem_mem hjl))
      have HTS := Lib.hid (List.take_succ_eq_append_getElem hjl)
      have HRV := Lib.hid hra
      generalize ls[j] = r at x0 HFJ HTS HRV
      obtain ⟨M, hM⟩ : ∃ M, r.length = M := ⟨_, rfl⟩
      have HM := Lib.hid hM
      clear ha hra c0 hM
      obtain ⟨ra, rc, re, -, -⟩ := HRV.out.shape
      simp only [Value.slice.injEq] at re
      obtain ⟨rfl, rfl, rfl⟩ := re
      obtain ⟨-, r1, r2, hrc⟩ := HRV.out.plain
      have HRC := Lib.hid hrc
      rw [HM.out] at x0 r1
      unfold maxLen at r2
      clear hrc
      by_cases h60 : 60 ≤ j
      · have d1 : decide ((j : Int) ≥ 60) = true := decide_eq_true (by omega)
        have d1' : decide (60 ≤ j) = true := decide_eq_true h60
        go_wp2_with fail
        go_ret
        exact ⟨⟨_, j, rfl, HTK.out j hj, HFEW.out⟩, HX.out⟩
      · have d1 : decide ((j : Int) ≥ 60) = false := decide_eq_false (by omega)
        have d1' : decide (60 ≤ j) = false := decide_eq_false h60
        by_cases h40 : 40 < M
        · have d2 : decide (40 < M) = true := decide_eq_true h40
          have d2' : decide ((40 : Int) < (M : Int)) = true := decide_eq_true (by omega)
          go_wp2_with fail
          go_ret
          exact ⟨⟨_, j, rfl, HTK.out j hj, HFEW.out⟩, HX.out⟩
        · have d2 : decide (40 < M) = false := decide_eq_false h40
          have d2' : decide ((40 : Int) < (M : Int)) = false := decide_eq_false (by omega)
          have HMAY := Lib.hid (refMay17_any (.slice a1 M a3) r wr (by have h := HRV.out; rw [HM.out] at h; exact h.mono HX.out) HFJ.out)
          obtain ⟨E, hE⟩ : ∃ E, mayR r = E := ⟨_, rfl⟩
          have HE := Lib.hid hE
          rw [hE] at HMAY
          clear hE
          by_cases hE0 : E = 0
          rotate_left
          · have q0 : (E != 0) = true := by simpa using hE0
            clear hE0
            go_wp2_with fail
            refine HMAY.out.mono ?_
            rintro e wm ⟨rfl, xm⟩
            have HXM := Lib.hid (Ext.trans HX.out xm)
            clear xm
            go_wp2_with fail
            go_ret
            exact ⟨⟨_, j, rfl, HTK.out j hj, HFEW.out⟩, HXM.out⟩
          subst hE0
          have q0 : ((0 : Int) != 0) = false := rfl
          go_wp2_with fail
          refine HMAY.out.mono ?_
          rintro e wm ⟨rfl, xm⟩
          have HXM := Lib.hid (Ext.trans HX.out xm)
          clear xm
          go_wp2_with fail
          replace HX := HXM
          clear HXM
          generalize wm = wo at HX ⊢
          go_loopw [3, 7, 32] (fun lf _ i wr => ∃ c K : Nat, c ≤ M ∧ i = .int .i64 c ∧ lf = .int .i64 K ∧ K ≤ 6000 ∧ Hid ((∀ q, (hq : q < r.length) → q < c → r[q].s.length ≤ 300) ∧ textsL (ls.take j) + textsR (r.take c) + K = 6000) ∧ Ext w wr) (fun _ _ i _ => M - (intOf i).toNat)
          case atStart => exact ⟨0, L, Nat.zero_le _, rfl, rfl, hL, Lib.hid ⟨fun q _ h => absurd h (Nat.not_lt_zero _), by have := HFW.out.2.2; simpa [textsR] using this⟩, HX.out⟩
          case round =>
            obtain ⟨c, K, hc, rfl, rfl, hK, HQ, hx⟩ := hrel
            have HX2 := Lib.hid hx
            clear hx
            by_cases hlt2 : c < M
            · have hcl : c < r.length := by have := HM.out; omega
              obtain ⟨g2, off2, rfl, k0, k1, k2⟩ := HRC.out c hcl
              have x1 := (HX2.out.cell (lt_of_cell k0)).trans k0
              have x2 := (HX2.out.cell (lt_of_cell k1)).trans k1
              have x3 := (HX2.out.cell (lt_of_cell k2)).trans k2
              have HTR := Lib.hid (List.take_succ_eq_append_getElem hcl)
              have HNQ := Lib.hid (show r[c].s.length ≤ 300 → ∀ q, (hq : q < r.length) → q < c + 1 → r[q].s.length ≤ 300 from fun h q hq hqc => by
                by_cases e : q = c
                · subst e; exact h
                · exact HQ.out.1 q hq (by omega))
              have HFQ := Lib.hid (HFJ.out r[c] (List.getElem_mem hcl)).2
              generalize r[c] = v at x1 x2 x3 HNQ HFQ HTR
              obtain ⟨vk, vn, vs⟩ := v
              simp only at x1 x2 x3 HNQ HFQ
              clear k0 k1 k2
              have HXA := Lib.hid (Ext.trans HX2.out (ext_new wr (.cells #[.int .u8 vk, .int .i64 vn, .string ⟨vs.toArray⟩] 56)))
              have hvm := HFQ.out
              unfold maxLen at hvm
              by_cases hlong : 300 < vs.length
              · have d3 : decide (300 < vs.length) = true := decide_eq_true hlong
                have d3' : decide ((300 : Int) < (vs.length : Int)) = true := decide_eq_true (by omega)
                go_wp2_with fail
                go_ret
                exact ⟨⟨_, j, rfl, HTK.out j hj, HFEW.out⟩, HXA.out⟩
              · have d3 : decide (300 < vs.length) = false := decide_eq_false hlong
                have d3' : decide ((300 : Int) < (vs.length : Int)) = false := decide_eq_false (by omega)
                by_cases hleft : K < vs.length
                · have d4 : decide (K < vs.length) = true := decide_eq_true hleft
                  have d4' : decide ((K : Int) < (vs.length : Int)) = true := decide_eq_true (by omega)
                  go_wp2_with fail
                  go_ret
                  exact ⟨⟨_, j, rfl, HTK.out j hj, HFEW.out⟩, HXA.out⟩
                · have d4 : decide (K < vs.length) = false := decide_eq_false hleft
                  have d4' : decide ((K : Int) < (vs.length : Int)) = false := decide_eq_false (by omega)
                  have HNQ2 := Lib.hid (HNQ.out (by simpa using Nat.le_of_not_lt hlong))
                  have HSUM := Lib.hid (show textsL (ls.take j) + textsR (r.take (c + 1)) + (K - vs.length) = 6000 from by
                    have := HQ.out.2
                    rw [HTR.out, textsR_snoc]
                    simp only
                    omega)
                  go_wp2_with fail
                  go_roundw
                  case rel => exact ⟨c + 1, K - vs.length, by omega, by go_num, by go_num, by omega, Lib.hid ⟨HNQ2.out, HSUM.out⟩, HXA.out⟩
                  case measure => simp [intOf]; omega
            · have HFW2 := Lib.hid (show j + 1 ≤ 60 ∧ (∀ r ∈ ls.take (j + 1), r.length ≤ 40 ∧ mayR r = 0 ∧ ∀ v ∈ r, v.fits ∧ v.s.length ≤ 300) ∧ textsL (ls.take (j + 1)) + K = 6000 from by
                refine ⟨by omega, fun q hq => ?_, ?_⟩
                · rw [HTS.out] at hq
                  rcases List.mem_append.1 hq with hq | hq
                  · exact HFW.out.2.1 q hq
                  · rw [List.mem_singleton] at hq
                    subst hq
                    refine ⟨by have := HM.out; omega, HE.out, fun v hv => ⟨(HFJ.out v hv).1, ?_⟩⟩
                    obtain ⟨i, hi, rfl⟩ := List.mem_iff_getElem.1 hv
                    exact HQ.out.1 i hi (by have := HM.out; omega)
                · have := HQ.out.2
                  rw [show r.take c = r from List.take_of_length_le (by have := HM.out; omega)] at this
                  rw [HTS.out, textsL_snoc]
                  exact this)
              go_wp2_with fail
              go_roundw
              case rel => exact ⟨j + 1, K, by omega, by go_num, rfl, hK, HFW2, HX2.out⟩
              case measure => simp [intOf]; omega
    · have hjN : j = N := by omega
      subst hjN
      have HALL := Lib.hid (show ls.take j = ls from List.take_of_length_le (by have := HN.out; omega))
      go_wp2_with fail
      go_ret
      exact ⟨⟨_, j, rfl, by rw [HALL.out]; exact HU.out, HFEW.out⟩, HX.out⟩
end Go.Proofs.YtaoegcakefodaaaGreat

namespace Go.Proofs.YtaoegcakefodaaaGreat
open Go.RowKit Go.BigFrame
theorem purNow_any {w : World} {p : Nat} {s : Pu} (h : PurS w p s) :
    Calls Tryz.prog 22 #[.pointer (some ⟨p, 0, none⟩)] w fun e w' => e = .returned (.int .i64 s.now) ∧ w = w' := by
  obtain ⟨c0, c1, c2, fr, ⟨h0, h1, h2, h3, h4⟩⟩ := h
  clear fr
  go_enter Tryz.func22, Tryz.ntmps22
  go_wp2_with fail
  go_ret
  exact ⟨rfl, rfl⟩
theorem purPeak_any {w : World} {p : Nat} {s : Pu} (h : PurS w p s) :
    Calls Tryz.prog 21 #[.pointer (some ⟨p, 0, none⟩)] w fun e w' => e = .returned (.int .i64 s.peak) ∧ w = w' := by
  obtain ⟨c0, c1, c2, fr, ⟨h0, h1, h2, h3, h4⟩⟩ := h
  clear fr
  go_enter Tryz.func21, Tryz.ntmps21
  go_wp2_with fail
  go_ret
  exact ⟨rfl, rfl⟩
end Go.Proofs.YtaoegcakefodaaaGreat

namespace Go.Proofs.YtaoegcakefodaaaGreat
open Go.RowKit Go.BigFrame
theorem rowCost_nil : rowCost [] = 8 := rfl
theorem rowCost_mono : ∀ (vs : List V) (j : Nat), 8 ≤ rowCost (vs.take j) ∧ rowCost (vs.take j) ≤ rowCost vs := by
  intro vs j
  have h : ∀ l : List V, 8 ≤ rowCost l := fun l => by unfold rowCost; omega
  refine ⟨h _, ?_⟩
  conv => rhs; rw [← List.take_append_drop j vs]
  unfold rowCost
  rw [List.map_append, List.sum_append]
  omega
end Go.Proofs.YtaoegcakefodaaaGreat

namespace Go.Proofs.YtaoegcakefodaaaGreat
theorem runsG_le : ∀ (most : Int) (rows : List (List V)) (n : Nat) (left : Int), (runsG most rows n left).1 ≤ n + rows.length ∧ ((runsG most rows n left).2 = 0 ∨ (runsG most rows n left).2 = 5)
  | _, [], n, _ => ⟨Nat.le_refl _, .inl rfl⟩
  | most, r :: t, n, left => by
    rw [runsG]
    split
    · exact ⟨Nat.zero_le _, .inr rfl⟩
    · split
      · have := runsG_le most t (n + 1) (most - rowCost r)
        rw [List.length_cons]
        exact ⟨by omega, this.2⟩
      · have := runsG_le most t n (left - rowCost r)
        rw [List.length_cons]
        exact ⟨by omega, this.2⟩
end Go.Proofs.YtaoegcakefodaaaGreat

namespace Go.Proofs.YtaoegcakefodaaaGreat
open Go.ChangeShapes Go.WideShapes Go.ChangeAt Go.RowKit Go.Joins Go.Deep
section
variable {H : Type} {enc : TypeId × Value → H} {P : Program} {w : World} {base : Nat} {held : Bool}
theorem read_keys {t e : TypeId} {f0 f1 : Field} {v : Value} {d : DataW H} {ps : List MemPlace} (ht : P.underlying t = some (.slice e)) (hs : P.underlying e = some (.struct #[f0, f1])) (h0 : P.underlying f0.type = some (.int .i64)) (h1 : P.underlying f1.type = some .bool)
    (hone : oneCellFields P #[f0, f1] = true) (hC : P.cellsOf e = 2) (hv : v.cells.toList = [v]) (h : DataW.Trod enc P w base (fun _ => true) held t v d ps) :
    ∃ ss : List Ky, RdKs w v ss ∧ ∀ a ∈ ss, a.fits := by
  obtain ⟨fuel, hf⟩ := h
  rw [hv] at hf
  obtain ⟨o0, q0⟩ := hone_of hone 0 f0 rfl
  obtain ⟨o1, q1⟩ := hone_of hone 1 f1 rfl
  rcases open_slice_pairs ht hs hC o0 o1 q0 q1 hf with ⟨hcs, _⟩ | ⟨a, len, cap, m, n, V0, V1, D0, D1, P0, P1, hcs, _, hl, hm, hmm, _, hi⟩
  · obtain rfl : v = .slice none 0 0 := by simpa using hcs
    exact ⟨[], RdKs.nil w, by simp⟩
  · obtain rfl : v = .slice (some a) len cap := by simpa using hcs
    have hmc : m = cap := by simpa using hmm
    have key : ∀ i, i < len → ∃ x : Ky, x.fits ∧ w.cell? (a.add (i * 2)) = some (.int .i64 x.col) ∧ w.cell? (a.add (i * 2 + 1)) = some (.bool x.down) := fun i hi' => by
      obtain ⟨c0, c1, t0, t1⟩ := hi i (by omega)
      obtain ⟨y, e0, _, w0⟩ := DataW.trod_int h0 t0
      obtain ⟨z, e1, _⟩ := DataW.trod_bool h1 t1
      have e0' : V0 i = .int .i64 y := by simpa using e0
      have e1' : V1 i = .bool z := by simpa using e1
      exact ⟨⟨y, z⟩, bounds_i64 w0, by rw [c0, e0'], by rw [c1, e1']⟩
    have hall : ∃ ss : List Ky, ss.length = len ∧ ∀ i, (hi : i < ss.length) → ss[i].fits ∧ w.cell? (a.add (i * 2)) = some (.int .i64 ss[i].col) ∧ w.cell? (a.add (i * 2 + 1)) = some (.bool ss[i].down) := by
      refine ⟨(List.range len).map fun i => if h : i < len then (key i h).choose else ⟨0, false⟩, by simp, fun i hi' => ?_⟩
      have hil : i < len := by simpa using hi'
      rw [List.getElem_map, List.getElem_range, dif_pos hil]
      exact (key i hil).choose_spec
    obtain ⟨ss, hlen, has⟩ := hall
    refine ⟨ss, ⟨some a, cap, by rw [hlen], by omega, hm, fun j hj => ?_, fun h => by cases h⟩, fun x hx => ?_⟩
    · obtain ⟨b, off, spot⟩ := a
      have h00 := (has 0 (by omega)).2.1
      have hsp : spot = none := by
        have h := World.cell?_spot h00
        cases spot with
        | none => rfl
        | some x =>
          exfalso
          simp [Addr.add] at h
      subst hsp
      obtain ⟨_, ha, hb⟩ := has j hj
      rw [add_at] at ha hb
      exact ⟨b, off, rfl, ha, by rw [← Nat.add_assoc] at hb; exact hb⟩
    · obtain ⟨i, hi', rfl⟩ := List.mem_iff_getElem.1 hx
      exact (has i hi').1
end
end Go.Proofs.YtaoegcakefodaaaGreat

namespace Go.Proofs.YtaoegcakefodaaaGreat
open Go.RowKit Go.BigFrame
theorem atV_fits {m : Nat} {r : List V} (h : FitR m r) (c : Int) : (atV r c).fits ∧ (atV r c).s.length ≤ m := by
  unfold atV
  have hz : V.zero.fits ∧ V.zero.s.length ≤ m := ⟨V.zero_fits, Nat.zero_le _⟩
  split
  · split
    · rename_i v hv
      split
      · exact hz
      · exact h v (List.mem_of_getElem? hv)
    · exact hz
  · exact hz
set_option maxRecDepth 100000 in
set_option maxHeartbeats 1000000 in
theorem refAt15_any (u : Value) (r : List V) (m : Nat) (c : Int) (w : World) (hu : RdVals w u r) (hf : FitR m r) :
    Calls Tryz.prog 70 #[u, .int .i64 c] w fun e w' => e = .returned (atV r c).val ∧ Ext w w' := by
  obtain ⟨ao, cap, rfl, -, -⟩ := hu.shape
  obtain ⟨-, h1, h2, hc⟩ := hu.plain
  have HC := Lib.hid hc
  have HF := Lib.hid hf
  have HX := Lib.hid (ext_new w (.cells #[.int .u8 0, .int .i64 0, .string ⟨#[]⟩] 56))
  have HB := Lib.hid (Blk.new w [.int .u8 0, .int .i64 0, .string ⟨#[]⟩] 56)
  unfold maxLen at h2
  obtain ⟨N, hN⟩ : ∃ N, r.length = N := ⟨_, rfl⟩
  have HN := Lib.hid hN
  rw [hN] at h1 ⊢
  clear hu hc hf hN
  by_cases hneg : c < 0
  · have HV := Lib.hid (atV_out (r := r) (c := c) (.inl hneg))
    have d1 : decide (c < 0) = true := decide_eq_true hneg
    go_enter Tryz.func70, Tryz.ntmps70
    go_wp2_with fail
    refine bodyPost_ret (results_cell_row (P := Tryz.prog) (fn := Tryz.f70) rfl _ _ w.heap.size 56 _ (0, 0) _ rfl HB.out Tryz.underlying56 rfl (by kernel_rfl)) rfl ?_
    exact ⟨by rw [HV.out]; rfl, HX.out⟩
  · have d1 : decide (c < 0) = false := decide_eq_false hneg
    obtain ⟨C, rfl⟩ : ∃ C : Nat, c = (C : Int) := ⟨c.toNat, by omega⟩
    by_cases hlt : C < N
    · have d2 : decide (N ≤ C) = false := decide_eq_false (by omega)
      have hjl : C < r.length := by have := HN.out; omega
      obtain ⟨g, off, rfl, c0, c1, c2⟩ := HC.out C hjl
      have HV := Lib.hid (atV_fit HF.out hjl)
      have x0 := (HX.out.cell (lt_of_cell c0)).trans c0
      have x1 := (HX.out.cell (lt_of_cell c1)).trans c1
      have x2 := (HX.out.cell (lt_of_cell c2)).trans c2
      generalize r[C] = v at x0 x1 x2 HV
      obtain ⟨vk, vn, vs⟩ := v
      simp only at x0 x1 x2
      clear c0 c1 c2
      by_cases hk : vk = 0
      · subst hk
        go_enter Tryz.func70, Tryz.ntmps70
        go_wp2_with fail
        refine bodyPost_ret (results_cell_row (P := Tryz.prog) (fn := Tryz.f70) rfl _ _ w.heap.size 56 _ (0, 0) _ rfl HB.out Tryz.underlying56 rfl (by kernel_rfl)) rfl ?_
        exact ⟨by rw [HV.out]; rfl, HX.out⟩
      · have q1 : (vk == (0 : Int)) = false := beq_eq_false_iff_ne.2 hk
        have HK := Lib.hid hk
        clear hk
        go_enter Tryz.func70, Tryz.ntmps70
        go_wp2_with fail
        refine bodyPost_ret (results_cell_row (P := Tryz.prog) (fn := Tryz.f70) rfl _ _ w.heap.size 56 _ (0, 0) _ rfl (Blk.new w [.int .u8 vk, .int .i64 vn, .string ⟨vs.toArray⟩] 56) Tryz.underlying56 rfl (by kernel_rfl)) rfl ?_
        exact ⟨by rw [HV.out, if_neg HK.out]; rfl, ext_new _ _⟩
    · have d2 : decide (N ≤ C) = true := decide_eq_true (by omega)
      have HV := Lib.hid (atV_out (r := r) (c := (C : Int)) (.inr (by have := HN.out; omega)))
      go_enter Tryz.func70, Tryz.ntmps70
      go_wp2_with fail
      refine bodyPost_ret (results_cell_row (P := Tryz.prog) (fn := Tryz.f70) rfl _ _ w.heap.size 56 _ (0, 0) _ rfl HB.out Tryz.underlying56 rfl (by kernel_rfl)) rfl ?_
      exact ⟨by rw [HV.out]; rfl, HX.out⟩
def downK (k : Ky) (a b : List V) : Bool := decide (k.down = true ∧ (atV a k.col).k ≠ 0 ∧ (atV b k.col).k ≠ 0)
theorem cmpK_down (k : Ky) (a b : List V) : cmpK k a b = if downK k a b = true then -cmpV (atV a k.col) (atV b k.col) else cmpV (atV a k.col) (atV b k.col) := by
  unfold cmpK downK
  simp only [decide_eq_true_eq]
set_option maxRecDepth 100000 in
set_option maxHeartbeats 2000000 in
theorem refCompare15_any (u v x : Value) (a b : List V) (ks : List Ky) (m : Nat) (w : World) (hu : RdVals w u a) (hv : RdVals w v b) (hx : RdKs w x ks) (ha : FitR m a) (hb : FitR m b) :
    Calls Tryz.prog 44 #[u, v, x] w fun e w' => e = .returned (.int .i64 (cmpR ks a b)) ∧ Ext w w' := by
  obtain ⟨ko, kcap, rfl, -, -⟩ := hx.shape
  obtain ⟨-, h1, h2, hc⟩ := hx.plain
  have HC := Lib.hid hc
  have HA := Lib.hid (fun c W (h : Ext w W) => refAt15_any u a m c W (hu.mono h) ha)
  have HB := Lib.hid (fun c W (h : Ext w W) => refAt15_any v b m c W (hv.mono h) hb)
  have HFA := Lib.hid (fun c => atV_fits ha c)
  have HFB := Lib.hid (fun c => atV_fits hb c)
  unfold maxLen at h2
  obtain ⟨N, hN⟩ : ∃ N, ks.length = N := ⟨_, rfl⟩
  have HN := Lib.hid hN
  rw [hN] at h1 ⊢
  clear hu hv hx hc ha hb hN
  go_enter Tryz.func44, Tryz.ntmps44
  go_wp2_with fail
  go_loopw [7, 8, 9, 10] (fun i _ _ _ wr => ∃ j : Nat, j ≤ N ∧ i = .int .i64 j ∧ cmpR ks a b = cmpR (ks.drop j) a b ∧ Ext w wr) (fun i _ _ _ _ => N - (intOf i).toNat)
  case atStart => exact ⟨0, Nat.zero_le _, rfl, rfl, Ext.keeps.refl _⟩
  case round =>
    obtain ⟨j, hj, rfl, hd, hext⟩ := hrel
    have HD := Lib.hid hd
    have HE := Lib.hid hext
    clear hd hext
    by_cases hlt : j < N
    · have hjl : j < ks.length := by have := HN.out; omega
      obtain ⟨g, off, rfl, c0, c1⟩ := HC.out j hjl
      have HS := Lib.hid (show cmpR (ks.drop j) a b = if cmpK ks[j] a b = 0 then cmpR (ks.drop (j + 1)) a b else cmpK ks[j] a b by rw [List.drop_eq_getElem_cons hjl]; rfl)
      rw [cmpK_down] at HS
      have HDK := Lib.hid (show downK ks[j] a b = decide (ks[j].down = true ∧ (atV a ks[j].col).k ≠ 0 ∧ (atV b ks[j].col).k ≠ 0) from rfl)
      have hC1 : -1 ≤ cmpV (atV a ks[j].col) (atV b ks[j].col) := by have := cmpV_three (atV a ks[j].col) (atV b ks[j].col); omega
      have hC2 : cmpV (atV a ks[j].col) (atV b ks[j].col) ≤ 1 := by have := cmpV_three (atV a ks[j].col) (atV b ks[j].col); omega
      have HAC := Lib.hid (HA.out ks[j].col)
      have HBC := Lib.hid (HB.out ks[j].col)
      have HCM := Lib.hid (refCompare_any (atV a ks[j].col) (atV b ks[j].col) (HFA.out _).1 (HFB.out _).1)
      have x0 := (HE.out.cell (lt_of_cell c0)).trans c0
      have HK1 := Lib.hid (fun W (h : Ext wr W) => (Ext.trans HE.out h).cell (lt_of_cell c0) |>.trans c0)
      have HK2 := Lib.hid (fun W (h : Ext wr W) => (Ext.trans HE.out h).cell (lt_of_cell c1) |>.trans c1)
      generalize downK ks[j] a b = D at HS HDK
      generalize cmpV (atV a ks[j].col) (atV b ks[j].col) = C at HS HCM hC1 hC2
      generalize ks[j].col = col at x0 HAC HBC HCM HK1 HDK
      generalize ks[j].down = down at HK2 HDK
      generalize atV a col = X at HAC HCM HDK
      generalize atV b col = Y at HBC HCM HDK
      obtain ⟨xk, xn, xs⟩ := X
      obtain ⟨yk, yn, ys⟩ := Y
      unfold V.val at HAC HBC HCM
      simp only at HAC HBC HCM HDK
      clear c0 c1
      go_wp2_with fail
      refine (HAC.out wr HE.out).mono ?_
      rintro e w1 ⟨rfl, hx1⟩
      have HX1 := Lib.hid (Ext.trans hx1 (ext_new w1 (.cells #[.int .u8 xk, .int .i64 xn, .string ⟨xs.toArray⟩] 56)))
      have HBX := Lib.hid (Blk.new w1 [.int .u8 xk, .int .i64 xn, .string ⟨xs.toArray⟩] 56)
      clear hx1 x0
      go_upto_region 5 with fail
      generalize w1.alloc (.cells #[.int .u8 xk, .int .i64 xn, .string ⟨xs.toArray⟩] 56) = W1 at HX1 HBX ⊢
      have x0 := HK1.out _ HX1.out
      go_wp2_with fail
      refine (HBC.out W1 (Ext.trans HE.out HX1.out)).mono ?_
      rintro e w2 ⟨rfl, hx2⟩
      have HX2 := Lib.hid (Ext.trans (Ext.trans HX1.out hx2) (ext_new w2 (.cells #[.int .u8 yk, .int .i64 yn, .string ⟨ys.toArray⟩] 56)))
      have HBX2 := Lib.hid ((HBX.out.ext hx2).ext (ext_new w2 (.cells #[.int .u8 yk, .int .i64 yn, .string ⟨ys.toArray⟩] 56)))
      have HBY := Lib.hid (Blk.new w2 [.int .u8 yk, .int .i64 yn, .string ⟨ys.toArray⟩] 56)
      clear hx2 x0
      go_upto_region 6 with fail
      generalize w2.alloc (.cells #[.int .u8 yk, .int .i64 yn, .string ⟨ys.toArray⟩] 56) = W2 at HX2 HBX2 HBY ⊢
      have a0 := HBX2.out.cell 0 _ rfl
      have a1 := HBX2.out.cell 1 _ rfl
      have a2 := HBX2.out.cell 2 _ rfl
      have b0 := HBY.out.cell 0 _ rfl
      have b1 := HBY.out.cell 1 _ rfl
      have b2 := HBY.out.cell 2 _ rfl
      go_wp2_with fail
      refine (HCM.out W2).mono ?_
      rintro e w3 ⟨rfl, hx3⟩
      have HX3 := Lib.hid (Ext.trans HX2.out hx3)
      have a0 := (HBX2.out.ext hx3).cell 0 _ rfl
      have b0 := (HBY.out.ext hx3).cell 0 _ rfl
      have k1 := HK2.out _ HX3.out
      clear hx3 a1 a2 b1 b2
      go_upto_region 7 with fail
      go_cut [48] from 34 (fun s W => s = .bool D ∧ W = w3)
      case first =>
        cases hdn : down with
        | false =>
          have HQ := Lib.hid (show D = false by rw [HDK.out, hdn]; rfl)
          subst hdn
          go_wp2_with fail
          go_meet
          exact ⟨by rw [HQ.out], rfl⟩
        | true =>
          have HDN := Lib.hid hdn
          subst hdn
          by_cases h1 : xk = 0
          · have HQ := Lib.hid (show D = false by rw [HDK.out]; exact decide_eq_false (fun h => h.2.1 h1))
            subst h1
            go_wp2_with fail
            go_meet
            exact ⟨by rw [HQ.out], rfl⟩
          · have q1 : (xk != (0 : Int)) = true := bne_iff_ne.2 h1
            by_cases h2 : yk = 0
            · have HQ := Lib.hid (show D = false by rw [HDK.out]; exact decide_eq_false (fun h => h.2.2 h2))
              subst h2
              clear h1
              go_wp2_with fail
              go_meet
              exact ⟨by rw [HQ.out], rfl⟩
            · have q2 : (yk != (0 : Int)) = true := bne_iff_ne.2 h2
              have HQ := Lib.hid (show D = true by rw [HDK.out]; exact decide_eq_true ⟨rfl, h1, h2⟩)
              clear h1 h2
              go_wp2_with fail
              go_meet
              exact ⟨by rw [HQ.out], rfl⟩
      case rest =>
      obtain ⟨rfl, rfl⟩ := hcut
      go_upto_if 48 with fail
      go_cut [10] from 49 (fun s W => s = .int .i64 (if D = true then -C else C) ∧ W = wc)
      case first =>
        cases D with
        | true =>
          go_wp2_with fail
          go_meet
          exact ⟨by rw [if_pos trivial], rfl⟩
        | false =>
          go_wp2_with fail
          go_meet
          exact ⟨rfl, rfl⟩
      case rest =>
      obtain ⟨rfl, rfl⟩ := hcut
      generalize (if D = true then -C else C) = R at HS ⊢
      by_cases hR : R = 0
      · have HN1 := Lib.hid (show cmpR ks a b = cmpR (ks.drop (j + 1)) a b by rw [HD.out, HS.out, if_pos hR])
        subst hR
        go_wp2_with fail
        go_roundw
        case rel => exact ⟨j + 1, by omega, by go_num, HN1.out, Ext.trans HE.out HX3.out⟩
        case measure => simp [intOf]; omega
      · have HN1 := Lib.hid (show cmpR ks a b = R by rw [HD.out, HS.out, if_neg hR])
        have q1 : (R != (0 : Int)) = true := bne_iff_ne.2 hR
        clear hR
        go_wp2_with fail
        go_ret
        exact ⟨by rw [HN1.out]; rfl, Ext.trans HE.out HX3.out⟩
    · have HN1 := Lib.hid (show cmpR ks a b = 0 by rw [HD.out, List.drop_of_length_le (by have := HN.out; omega)]; rfl)
      go_wp2_with fail
      go_ret
      exact ⟨by rw [HN1.out]; rfl, HE.out⟩
end Go.Proofs.YtaoegcakefodaaaGreat

namespace Go.Proofs.YtaoegcakefodaaaGreat
open Go.ChangeShapes Go.WideShapes Go.ChangeAt Go.RowKit Go.Joins Go.Deep
section
variable {H : Type} {enc : TypeId × Value → H} {P : Program} {w : World} {base : Nat} {held : Bool}
theorem read_vals {t e : TypeId} {f0 f1 f2 : Field} {v : Value} {d : DataW H} {ps : List MemPlace} (ht : P.underlying t = some (.slice e)) (hs : P.underlying e = some (.struct #[f0, f1, f2])) (h0 : P.underlying f0.type = some (.int .u8)) (h1 : P.underlying f1.type = some (.int .i64)) (h2 : P.underlying f2.type = some .string)
    (hone : oneCellFields P #[f0, f1, f2] = true) (hC : P.cellsOf e = 3) (hv : v.cells.toList = [v]) (h : DataW.Trod enc P w base (fun _ => true) held t v d ps) :
    ∃ vs : List V, RdVals w v vs ∧ ∀ x ∈ vs, x.fits ∧ x.s.length ≤ maxLen := by
  obtain ⟨fuel, hf⟩ := h
  rw [hv] at hf
  rcases open_slice ht hf with ⟨hcs, _⟩ | ⟨a, len, cap, m, n, D, Pl, hcs, _, hl, hm, hmm, _, hi⟩
  · obtain rfl : v = .slice none 0 0 := by simpa using hcs
    exact ⟨[], ⟨none, 0, rfl, Nat.le_refl _, by simp [maxLen], fun j hj => by simp at hj⟩, by simp⟩
  · obtain rfl : v = .slice (some a) len cap := by simpa using hcs
    have hmc : m = cap := by simpa using hmm
    have key : ∀ i, i < len → ∃ x : V, (x.fits ∧ x.s.length ≤ maxLen) ∧ ∀ j y, x.cells[j]? = some y → w.cell? ((a.add (i * 3)).add j) = some y := fun i hi' => by
      obtain ⟨cs, hc, ht'⟩ := hi i (by omega)
      rw [hC] at hc
      obtain ⟨_, hcl, hat⟩ := World.cells?_some hc
      match cs, hcl with
      | [c0, c1, c2], _ =>
        obtain ⟨y0, y1, y2, n', _, _, k0, k1, k2⟩ := trod_struct3 hs ht'
        obtain ⟨o0, q0⟩ := hone_of hone 0 f0 rfl
        obtain ⟨o1, q1⟩ := hone_of hone 1 f1 rfl
        obtain ⟨o2, q2⟩ := hone_of hone 2 f2 rfl
        rw [o0, q0] at k0
        rw [o1, q1] at k1
        rw [o2, q2] at k2
        obtain ⟨z0, e0, _, w0⟩ := DataW.trod_int h0 k0
        obtain ⟨z1, e1, _, w1⟩ := DataW.trod_int h1 k1
        obtain ⟨s, e2, _, w2⟩ := DataW.trod_string h2 k2
        have e0' : c0 = .int .u8 z0 := by simpa using e0
        have e1' : c1 = .int .i64 z1 := by simpa using e1
        have e2' : c2 = .string s := by simpa using e2
        subst e0' e1' e2'
        have b0 := bounds_u8 w0
        have b1 := bounds_i64 w1
        have hsl : s.data.toList.length = s.size := Array.length_toList
        have hss : (⟨s.data.toList.toArray⟩ : ByteArray) = s := by cases s; simp
        refine ⟨⟨z0, z1, s.data.toList⟩, ⟨⟨b0.1, b0.2, b1.1, b1.2⟩, by show s.data.toList.length ≤ _; rw [hsl]; exact w2⟩, fun j y hj => ?_⟩
        unfold V.cells at hj
        simp only [hss] at hj
        have hj3 : j < 3 := by
          have := (List.getElem?_eq_some_iff.1 hj).1
          simpa using this
        rw [hat j hj3]
        exact hj
    have hall : ∃ vs : List V, vs.length = len ∧ ∀ i, (hi : i < vs.length) → (vs[i].fits ∧ vs[i].s.length ≤ maxLen) ∧ ∀ j y, (vs[i].cells)[j]? = some y → w.cell? ((a.add (i * 3)).add j) = some y := by
      refine ⟨(List.range len).map fun i => if h : i < len then (key i h).choose else V.zero, by simp, fun i hi' => ?_⟩
      have hil : i < len := by simpa using hi'
      rw [List.getElem_map, List.getElem_range, dif_pos hil]
      exact (key i hil).choose_spec
    obtain ⟨vs, hlen, hvs⟩ := hall
    refine ⟨vs, ⟨some a, cap, by rw [hlen], by omega, hm, fun j hj => ?_⟩, fun x hx => ?_⟩
    · obtain ⟨b, off, spot⟩ := a
      have h00 := (hvs 0 (by omega)).2 0 _ rfl
      have hsp : spot = none := by
        have h := World.cell?_spot h00
        cases spot with
        | none => rfl
        | some x =>
          exfalso
          simp [Addr.add] at h
      subst hsp
      exact ⟨b, off, rfl, fun i y hy => by
        have := (hvs j hj).2 i y hy
        rw [add_at, add_at] at this
        exact this⟩
    · obtain ⟨i, hi', rfl⟩ := List.mem_iff_getElem.1 hx
      exact (hvs i hi').1
theorem read_nil {t e : TypeId} {v : Value} {d : DataW H} {ps : List MemPlace} (ht : P.underlying t = some (.slice e)) (hv : v.cells.toList = [v]) (h : DataW.Trod enc P w base (fun _ => true) held t v d ps) :
    ∀ n c, v = .slice none n c → n = 0 ∧ c = 0 := by
  intro n c hn
  obtain ⟨fuel, hf⟩ := h
  rw [hv] at hf
  rcases open_slice ht hf with ⟨hcs, _⟩ | ⟨a, len, cap, m, n, D, Pl, hcs, _⟩
  · obtain rfl : v = .slice none 0 0 := by simpa using hcs
    simp only [Value.slice.injEq] at hn
    exact ⟨hn.2.1.symm, hn.2.2.symm⟩
  · obtain rfl : v = .slice (some a) len cap := by simpa using hcs
    simp at hn
end
end Go.Proofs.YtaoegcakefodaaaGreat

namespace Go.Proofs.YtaoegcakefodaaaGreat
open Go.ChangeShapes Go.WideShapes Go.ChangeAt Go.RowKit Go.Joins Go.Deep
section
variable {H : Type} {enc : TypeId × Value → H} {P : Program} {w : World} {base : Nat} {held : Bool}
theorem read_rows {t r e : TypeId} {f0 f1 f2 : Field} {v : Value} {d : DataW H} {ps : List MemPlace} (ht : P.underlying t = some (.slice r)) (hr : P.underlying r = some (.slice e)) (hs : P.underlying e = some (.struct #[f0, f1, f2])) (h0 : P.underlying f0.type = some (.int .u8)) (h1 : P.underlying f1.type = some (.int .i64)) (h2 : P.underlying f2.type = some .string)
    (hone : oneCellFields P #[f0, f1, f2] = true) (hC : P.cellsOf e = 3) (hR : P.cellsOf r = 1) (hv : v.cells.toList = [v]) (h : DataW.Trod enc P w base (fun _ => true) held t v d ps) :
    ∃ rs : List (List V), RdRows w v rs ∧ ∀ vs ∈ rs, ∀ x ∈ vs, x.fits ∧ x.s.length ≤ maxLen := by
  obtain ⟨fuel, hf⟩ := h
  rw [hv] at hf
  rcases open_slice1 ht hR hf with ⟨hcs, _⟩ | ⟨a, len, cap, m, n, W, D, Pl, hcs, _, hl, hm, hmm, _, hi⟩
  · obtain rfl : v = .slice none 0 0 := by simpa using hcs
    exact ⟨[], RdRows.nil w, by simp⟩
  · obtain rfl : v = .slice (some a) len cap := by simpa using hcs
    have hmc : m = cap := by simpa using hmm
    have key : ∀ i, i < len → ∃ vs : List V, (∀ x ∈ vs, x.fits ∧ x.s.length ≤ maxLen) ∧ RdVals w (W i) vs ∧ w.cell? (a.add i) = some (W i) := fun i hi' => by
      obtain ⟨hc, ht'⟩ := hi i (by omega)
      obtain ⟨a', l', c', e'⟩ := slice_form hr ht'
      have e'' : W i = .slice a' l' c' := by simpa using e'
      obtain ⟨vs, hvs, hfit⟩ := read_vals (v := W i) (d := D i) (ps := Pl i) hr hs h0 h1 h2 hone hC (by rw [e'']; rfl) ⟨n, by rw [e'']; rw [e''] at ht'; exact ht'⟩
      exact ⟨vs, hfit, hvs, hc⟩
    have hall : ∃ rs : List (List V), rs.length = len ∧ ∀ i, (hi : i < rs.length) → (∀ x ∈ rs[i], x.fits ∧ x.s.length ≤ maxLen) ∧ RdVals w (W i) rs[i] ∧ w.cell? (a.add i) = some (W i) := by
      refine ⟨(List.range len).map fun i => if h : i < len then (key i h).choose else [], by simp, fun i hi' => ?_⟩
      have hil : i < len := by simpa using hi'
      rw [List.getElem_map, List.getElem_range, dif_pos hil]
      exact (key i hil).choose_spec
    obtain ⟨rs, hlen, hrs⟩ := hall
    refine ⟨rs, ⟨some a, cap, by rw [hlen], by omega, hm, fun j hj => ⟨a, W j, rfl, (hrs j hj).2.1, (hrs j hj).2.2⟩⟩, fun x hx => ?_⟩
    obtain ⟨i, hi', rfl⟩ := List.mem_iff_getElem.1 hx
    exact (hrs i hi').1
end
end Go.Proofs.YtaoegcakefodaaaGreat

namespace Go.Proofs.YtaoegcakefodaaaGreat
open Go.RowKit Go.BigFrame
theorem HdOpt.oneCell {w : World} {hs : List Value} {os : List (Option (List V))} (h : HdOpt w hs os) : ∀ x ∈ hs, x.oneCell' = true := fun x hx => by
  obtain ⟨i, hi, rfl⟩ := List.mem_iff_getElem.1 hx
  obtain ⟨a, n, c, e⟩ := (h.2 i hi (h.1 ▸ hi)).shape
  rw [e]
  cases a <;> rfl
end Go.Proofs.YtaoegcakefodaaaGreat

