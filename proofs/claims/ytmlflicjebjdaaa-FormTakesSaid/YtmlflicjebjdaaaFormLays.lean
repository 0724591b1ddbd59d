/-
  The walk of the law FormLays.
-/
import Derived.Test.YtmlflicjebjdaaaShown
import Derived.Test.YtmlflicjebjdaaaRef
import Derived.BigQuiet
import Derived.Lib.Strings
namespace Go.Proofs.Ytmlflicjebjdaaa
open Go.RowKit Go.BigFrame

/-- A row of bytes of the call's own, whatever they are. -/
def OwnB (base : Nat) (w : World) (v : Value) (n : Nat) : Prop := ∃ xs, w.ownsRow base 5 1 v n xs ∧ ∀ u ∈ xs, ∃ z : Int, u = .int .u8 z

theorem OwnB.of_bytes {base : Nat} {w : World} {v : Value} {n : Nat} {l : List UInt8} (h : w.ownsRow base 5 1 v n (l.map bv)) : OwnB base w v n :=
  ⟨_, h, fun u hu => by obtain ⟨c, _, rfl⟩ := List.mem_map.1 hu; exact ⟨_, rfl⟩⟩

theorem owns_later {base : Nat} {e : TypeId} {w w' : World} {v : Value} {n : Nat} {xs : List Value} (h : w.ownsRow base e 1 v n xs) (hb : Below w.heap.size w w') : w'.ownsRow base e 1 v n xs :=
  h.kept (row := none) ⟨hb.os, hb.tape, hb.output, hb.size, fun k hk _ => hb.block k hk⟩ (by cases v.ownBlock <;> simp)

theorem OwnB.at {base g n cap i : Nat} {w : World} (h : OwnB base w (.slice (some ⟨g, 0, none⟩) n cap) n) (hi : i < n) : ∃ z : Int, w.cell? ⟨g, i, none⟩ = some (.int .u8 z) := by
  obtain ⟨xs, ho, hx⟩ := h
  have hl : xs.length = n := by simpa using ho.1
  have hc := ho.cellAt i (by omega)
  rw [List.getElem?_eq_getElem (by omega)] at hc
  obtain ⟨z, hz⟩ := hx _ (List.getElem_mem (show i < xs.length by omega))
  exact ⟨z, by rw [hc, hz]⟩
theorem OwnB.free {base g n cap : Nat} {w : World} (h : OwnB base w (.slice (some ⟨g, 0, none⟩) n cap) n) (i : Nat) : w.frozen? ⟨g, i, none⟩ = false := h.choose_spec.1.frozenAt i
theorem OwnB.put {base g n cap : Nat} {w : World} (h : OwnB base w (.slice (some ⟨g, 0, none⟩) n cap) n) (i : Nat) (z : Int) : OwnB base (w.setCell ⟨g, i, none⟩ (.int .u8 z)) (.slice (some ⟨g, 0, none⟩) n cap) n := by
  obtain ⟨xs, ho, hx⟩ := h
  refine ⟨_, (ho.stored i _).1, fun u hu => ?_⟩
  rcases List.mem_or_eq_of_mem_set hu with h | rfl
  · exact hx u h
  · exact ⟨z, rfl⟩
theorem OwnB.other {base g i n : Nat} {w : World} {v u : Value} (h : OwnB base w v n) (hd : v.ownBlock ≠ some g) (hg : g < w.heap.size) : OwnB base (w.setCell ⟨g, i, none⟩ u) v n := by
  obtain ⟨xs, ho, hx⟩ := h
  exact ⟨xs, ho.kept (row := some g) ⟨rfl, rfl, rfl, by simp [World.setCell], fun k _ hk => Below.heap_setCell _ _ _ _ (fun e => hk (by rw [e]))⟩ (.inr hd), hx⟩
theorem OwnB.lt {base g n cap m : Nat} {w : World} (h : OwnB base w (.slice (some ⟨g, 0, none⟩) n cap) m) : base ≤ g ∧ g < w.heap.size := h.choose_spec.1.lt g rfl

theorem OwnB.base {b b' n : Nat} {w : World} {v : Value} (h : OwnB b w v n) (hb : b' ≤ b) : OwnB b' w v n := by
  obtain ⟨xs, ho, hx⟩ := h
  refine ⟨xs, ⟨ho.1, ?_⟩, hx⟩
  rcases ho.2 with h | ⟨g, cap, cur, h1, h2, h3⟩
  · exact .inl h
  · exact .inr ⟨g, cap, cur, h1, by omega, h3⟩

theorem owns_shape {base : Nat} {e : TypeId} {w : World} {v : Value} {n : Nat} {xs : List Value} (h : w.ownsRow base e 1 v n xs) (hn : 0 < n) : ∃ g cap, v = .slice (some ⟨g, 0, none⟩) n cap ∧ base ≤ g ∧ g < w.heap.size ∧ n ≤ cap ∧ cap ≤ maxLen := by
  rcases h.2 with ⟨_, h0⟩ | ⟨g, cap, cur, rfl, hb, hg, h1, h2, _⟩
  · omega
  · exact ⟨g, cap, rfl, hb, (Array.getElem?_eq_some_iff.1 hg).1, h1, h2⟩

set_option maxRecDepth 100000 in
set_option maxHeartbeats 4000000 in
theorem formLays_walk (v : Value) (l : List UInt8) (n m : Int) (s : ByteArray) (w : World) (hr : Rd w v l) (hn : 0 ≤ n ∧ n ≤ 18446744073709551615) (hm : -9223372036854775808 ≤ m ∧ m ≤ 9223372036854775807) (hs : s.size ≤ maxLen) :
    Calls Try.prog 3 #[v, .int .u64 n, .int .i64 m, .string s] w fun e w' => e = .returned (.bool true) ∧ Below w.heap.size w w' := by
  obtain ⟨n, rfl⟩ := Int.eq_ofNat_of_zero_le hn.1
  obtain ⟨hm0, hm1⟩ := hm
  have hn1 : n ≤ 18446744073709551615 := by omega
  have HR := Lib.hid hr
  obtain ⟨t, ht⟩ : ∃ t : ByteArray, t = s.extract 0 (min (s.size : Int) 3000).toNat := ⟨_, rfl⟩
  have hts : t.size ≤ 3000 := by rw [ht, ByteArray.size_extract]; omega
  have HT := Lib.hid ht
  obtain ⟨l1, hl1⟩ : ∃ l1, l1 = l.take 3000 := ⟨_, rfl⟩
  have hll : l1.length ≤ 3000 := by rw [hl1, List.length_take]; omega
  have HL := Lib.hid hl1
  unfold maxLen at hs
  clear hr hn ht hl1
  go_enter Try.func3, Try.ntmps3
  go_wp2_with fail
  refine (shown_any _).mono ?_
  rintro e w1 ⟨rfl, hb1⟩
  have H1 := Lib.hid hb1
  clear hb1
  go_wp2_with fail
  refine (few_any v l _ (HR.out.mono H1.out)).mono ?_
  rintro e w' ⟨⟨x, rfl, hcx, hrx⟩, rfl⟩
  rw [← HL.out] at hcx hrx
  have HX := Lib.hid hrx
  clear hrx
  go_wp2_with fail
  clear hcx
  rw [← HT.out]
  refine (Num_any x l1 n _ HX.out (by omega) hn1).mono ?_
  rintro e w2 ⟨p, rfl, hown2, hb2⟩
  have hlp : 0 < ((l1 ++ enc n).map bv).length := by have := enc_pos n; rw [List.length_map, List.length_append]; omega
  generalize ((l1 ++ enc n).map bv).length = np at hown2 hlp
  obtain ⟨gp, cp, rfl, hgp1, hgp2, hcp1, hcp2⟩ := owns_shape hown2 hlp
  have HP := Lib.hid hown2
  have HB2 := Lib.hid hb2
  clear hown2 hb2
  go_wp2_with fail
  refine (Int_any x l1 m _ (HX.out.mono HB2.out) (by omega) hm0 hm1).mono ?_
  rintro e w3 ⟨q, rfl, hown3, hb3⟩
  have hlq : 0 < ((l1 ++ enc (zig m)).map bv).length := by have := enc_pos (zig m); rw [List.length_map, List.length_append]; omega
  generalize ((l1 ++ enc (zig m)).map bv).length = nq at hown3 hlq
  obtain ⟨gq, cq, rfl, hgq1, hgq2, hcq1, hcq2⟩ := owns_shape hown3 hlq
  have HQ := Lib.hid hown3
  have HB3 := Lib.hid hb3
  clear hown3 hb3
  go_wp2_with fail
  refine (Text_any x l1 t _ ((HX.out.mono HB2.out).mono HB3.out) (by omega)).mono ?_
  rintro e w4 ⟨r, rfl, hown4, hb4⟩
  have HRR := Lib.hid hown4
  have HB4 := Lib.hid hb4
  clear hown4 hb4
  go_wp2_with fail
  have B4 := Lib.hid (Ext.trans (Ext.trans HB2.out HB3.out) HB4.out)
  have X4 := Lib.hid (HX.out.mono B4.out)
  have P4 := Lib.hid (show Rd w4 _ (l1 ++ enc n) from Rd.mono (RdV.of_owns HP.out) (Ext.trans HB3.out HB4.out))
  have Q4 := Lib.hid (show Rd w4 _ (l1 ++ enc (zig m)) from Rd.mono (RdV.of_owns HQ.out) HB4.out)
  have R4 := Lib.hid (show Rd w4 r (l1 ++ enc t.size ++ t.data.toList) from RdV.of_owns HRR.out)
  refine wp_region_segs Ext Ext.keeps [([0, 1, 2, 3], some 4), ([5, 6, 7, 8, 9, 10, 11], some 12), ([13, 14, 15, 16, 17, 18, 19, 20], some 21), ([22, 23, 24, 25], none)] (by kernel_rfl) (by kernel_rfl) (fun c a a' w e h => (by exact ⟨e ▸ h.1, h.2⟩)) ?_
  simp only [pickSegs, pickOps, List.map_cons, List.map_nil, Option.map_some, Option.map_none, Option.getD_some, List.getElem?_toArray, List.getElem?_cons_zero, List.getElem?_cons_succ]
  refine wpSegs_some fun K hK => ?_
  have hcp : ∀ z : Later Ext w4.drew, (convert 22 9 (.slice (some ⟨gp, 0, none⟩) np cp)).run Try.prog z.val = .ok (.string ⟨(l1 ++ enc n).toArray⟩) z.val := fun z => (Rd.mono (Rd.mono P4.out (Ext.drew _)) z.ext).string _ _ _ Try.underlying22 Try.underlying5 Try.underlying9
  repeat go_big_quiet_step (fail)
  refine wpQuiet_nil ?_
  clear hcp
  go_wp2_with fail
  refine (refNum_any x l1 n _ (Rd.mono X4.out (Ext.drew _)) (by omega) hn1).mono ?_
  rintro e w5 ⟨p', rfl, hown5, hb5⟩
  go_wp2_with fail
  refine ⟨hb5, hK _ _ ?_⟩
  clear hK K
  have B5 := Lib.hid (Ext.trans (Ext.drew _) hb5)
  have P5 := Lib.hid (show Rd w5 p' (l1 ++ enc n) from RdV.of_owns hown5)
  clear hb5 hown5
  refine wpSegs_some fun K hK => ?_
  have hcp : ∀ z : Later Ext w5, (convert 22 9 p').run Try.prog z.val = .ok (.string ⟨(l1 ++ enc n).toArray⟩) z.val := fun z => (Rd.mono P5.out z.ext).string _ _ _ Try.underlying22 Try.underlying5 Try.underlying9
  have hcq : ∀ z : Later Ext w5, (convert 22 9 (.slice (some ⟨gq, 0, none⟩) nq cq)).run Try.prog z.val = .ok (.string ⟨(l1 ++ enc (zig m)).toArray⟩) z.val := fun z => (Rd.mono (Rd.mono Q4.out B5.out) z.ext).string _ _ _ Try.underlying22 Try.underlying5 Try.underlying9
  repeat go_big_quiet_step (fail)
  refine wpQuiet_nil ?_
  clear hcp hcq
  go_wp2_with fail
  refine (refInt_any x l1 m _ (Rd.mono X4.out B5.out) (by omega) hm0 hm1).mono ?_
  rintro e w6 ⟨q', rfl, hown6, hb6⟩
  go_wp2_with fail
  refine ⟨hb6, hK _ _ ?_⟩
  clear hK K
  have B6 := Lib.hid (Ext.trans B5.out hb6)
  have Q6 := Lib.hid (show Rd w6 q' (l1 ++ enc (zig m)) from RdV.of_owns hown6)
  clear hb6 hown6
  refine wpSegs_some fun K hK => ?_
  have hcq : ∀ z : Later Ext w6, (convert 22 9 q').run Try.prog z.val = .ok (.string ⟨(l1 ++ enc (zig m)).toArray⟩) z.val := fun z => (Rd.mono Q6.out z.ext).string _ _ _ Try.underlying22 Try.underlying5 Try.underlying9
  have hcr : ∀ z : Later Ext w6, (convert 22 9 r).run Try.prog z.val = .ok (.string ⟨(l1 ++ enc t.size ++ t.data.toList).toArray⟩) z.val := fun z => (Rd.mono (Rd.mono R4.out B6.out) z.ext).string _ _ _ Try.underlying22 Try.underlying5 Try.underlying9
  repeat go_big_quiet_step (fail)
  refine wpQuiet_nil ?_
  clear hcq hcr
  go_wp2_with fail
  refine (refText_any x l1 t _ (Rd.mono X4.out B6.out) (by omega)).mono ?_
  rintro e w7 ⟨r', rfl, hown7, hb7⟩
  go_wp2_with fail
  refine ⟨hb7, hK _ _ ?_⟩
  clear hK K
  have B7 := Lib.hid (Ext.trans B6.out hb7)
  have R7 := Lib.hid (show Rd w7 r' (l1 ++ enc t.size ++ t.data.toList) from RdV.of_owns hown7)
  clear hb7 hown7
  refine wpSegs_none ?_
  have hcr : ∀ z : Later Ext w7, (convert 22 9 r').run Try.prog z.val = .ok (.string ⟨(l1 ++ enc t.size ++ t.data.toList).toArray⟩) z.val := fun z => (Rd.mono R7.out z.ext).string _ _ _ Try.underlying22 Try.underlying5 Try.underlying9
  repeat go_big_quiet_step (fail)
  refine wpQuiet_nil ?_
  refine wpSegs_nil ?_
  clear hcr
  have BF := Lib.hid (Ext.trans B4.out B7.out)
  have OP := Lib.hid (OwnB.of_bytes (owns_later HP.out (Ext.trans (Ext.trans HB3.out HB4.out) B7.out)))
  have OQ0 := OwnB.of_bytes (owns_later HQ.out (Ext.trans HB4.out B7.out))
  have OQ := Lib.hid (OwnB.base OQ0 HB2.out.size)
  have hne : gp ≠ gq := by omega
  unfold maxLen at hcp2 hcq2
  clear OQ0
  go_wp2_with fail
  go_loopw [65] (fun i wr => ∃ k : Nat, k ≤ np ∧ i = .int .i64 k ∧ OwnB w1.heap.size wr (.slice (some ⟨gp, 0, none⟩) np cp) np ∧ OwnB w1.heap.size wr (.slice (some ⟨gq, 0, none⟩) nq cq) nq ∧ Below w1.heap.size w1 wr) (fun i _ => np - (intOf i).toNat)
  case atStart => exact ⟨0, Nat.zero_le _, rfl, OP.out, OQ.out, BF.out⟩
  case round =>
    obtain ⟨k, hk, rfl, hop, hoq, hbel⟩ := hrel
    by_cases hlt : k < np
    · obtain ⟨z, hz⟩ := hop.at hlt
      have hf := hop.free k
      have HOP := Lib.hid hop
      have HOQ := Lib.hid hoq
      have HBE := Lib.hid hbel
      clear hop hoq hbel
      go_wp2_with fail
      go_roundw
      case rel => exact ⟨k + 1, by omega, by go_num, HOP.out.put k _, HOQ.out.other (by simp [Value.ownBlock]; omega) HOP.out.lt.2, HBE.out.setCell HOP.out.lt.1 _⟩
      case measure => simp [intOf]; omega
    · have HOP := Lib.hid hop
      have HOQ := Lib.hid hoq
      have HBE := Lib.hid hbel
      clear hop hoq hbel
      go_wp2_with fail
      go_loopw [77] (fun i wr => ∃ k : Nat, k ≤ nq ∧ i = .int .i64 k ∧ OwnB w1.heap.size wr (.slice (some ⟨gq, 0, none⟩) nq cq) nq ∧ Below w1.heap.size w1 wr) (fun i _ => nq - (intOf i).toNat)
      case atStart => exact ⟨0, Nat.zero_le _, rfl, HOQ.out, HBE.out⟩
      case round =>
        obtain ⟨j, hj, rfl, hoq, hbel⟩ := hrel
        by_cases hltj : j < nq
        · obtain ⟨z, hz⟩ := hoq.at hltj
          have hf := hoq.free j
          have HOQ2 := Lib.hid hoq
          have HBE2 := Lib.hid hbel
          clear hoq hbel
          go_wp2_with fail
          go_roundw
          case rel => exact ⟨j + 1, by omega, by go_num, HOQ2.out.put j _, HBE2.out.setCell HOQ2.out.lt.1 _⟩
          case measure => simp [intOf]; omega
        · have hcx2 := (Rd.mono HX.out hbel).string (P := Try.prog) 22 9 5 Try.underlying22 Try.underlying5 Try.underlying9
          have HBE2 := Lib.hid hbel
          clear hoq hbel
          go_wp2_with fail
          go_ret
          exact ⟨rfl, H1.out.trans (HBE2.out.mono H1.out.size)⟩

end Go.Proofs.Ytmlflicjebjdaaa
