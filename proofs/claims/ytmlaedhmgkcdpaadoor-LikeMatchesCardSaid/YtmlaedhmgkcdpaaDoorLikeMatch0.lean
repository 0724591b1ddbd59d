/-
  The contract of the document's own Match.
-/
import Derived.Test.YtmlaedhmgkcdpaaDoorLikeRef3
import Derived.Test.YtmlaedhmgkcdpaaDoorMatchDP
import Derived.Laws.OwnMore
import Derived.RegionTactic
import Derived.ChangeAlike
namespace Go.Proofs.YtmlaedhmgkcdpaaDoor
open Go.RowKit

theorem Tryd.info_bool : (Tryd.prog.info? 4).map (fun i => (i.zero, i.size, i.bytes)) = some (some (.bool false), 1, 1) := by kernel_rfl

/-- The row's first so many bools. -/
def BRow (base : Nat) (w : World) (v : Value) (n : Nat) (f : Nat → Bool) (m : Nat) : Prop :=
  ∃ g xs, v = .slice (some ⟨g, 0, none⟩) n n ∧ w.ownsRow base 4 1 v n xs ∧ ∀ j, j < m → xs[j]? = some (.bool (f j))
theorem BRow.put {base g n m : Nat} {w : World} {f : Nat → Bool} {b : Bool} (h : BRow base w (.slice (some ⟨g, 0, none⟩) n n) n f m) (hm : m < n) (hb : b = f m) :
    BRow base (w.setCell ⟨g, m, none⟩ (.bool b)) (.slice (some ⟨g, 0, none⟩) n n) n f (m + 1) := by
  obtain ⟨g', xs, hg, ho, hx⟩ := h
  have hl : xs.length = n := by simpa using ho.1
  refine ⟨g, _, rfl, (ho.stored m _).1, fun j hj => ?_⟩
  by_cases e : j = m
  · subst e
    rw [List.getElem?_set_self (by omega), hb]
  · rw [List.getElem?_set_ne (fun h => e h.symm)]
    exact hx j (by omega)
theorem BRow.at {base g n m : Nat} {w : World} {f : Nat → Bool} (h : BRow base w (.slice (some ⟨g, 0, none⟩) n n) n f m) (j : Nat) (hj : j < m) (hn : m ≤ n) : w.cell? ⟨g, j, none⟩ = some (.bool (f j)) := by
  obtain ⟨g', xs, hg, ho, hx⟩ := h
  rw [ho.cellAt j (by omega)]
  exact hx j hj
theorem BRow.has {base g n m : Nat} {w : World} {f : Nat → Bool} (h : BRow base w (.slice (some ⟨g, 0, none⟩) n n) n f m) (j : Nat) (hj : j < n) : ∃ u, w.cell? ⟨g, j, none⟩ = some u := by
  obtain ⟨g', xs, hg, ho, hx⟩ := h
  have hl : xs.length = n := by simpa using ho.1
  rw [ho.cellAt j (by omega)]
  exact ⟨_, List.getElem?_eq_getElem (by omega)⟩
theorem BRow.free {base g n m : Nat} {w : World} {f : Nat → Bool} (h : BRow base w (.slice (some ⟨g, 0, none⟩) n n) n f m) (j : Nat) : w.frozen? ⟨g, j, none⟩ = false := h.choose_spec.choose_spec.2.1.frozenAt j
theorem BRow.lt {base g n m : Nat} {w : World} {f : Nat → Bool} (h : BRow base w (.slice (some ⟨g, 0, none⟩) n n) n f m) : base ≤ g ∧ g < w.heap.size := h.choose_spec.choose_spec.2.1.lt g rfl
theorem BRow.kept {base n m : Nat} {w w' : World} {v : Value} {f : Nat → Bool} (h : BRow base w v n f m) (hb : ∀ k, v.ownBlock = Option.some k → w'.heap[k]? = w.heap[k]?) : BRow base w' v n f m := by
  obtain ⟨g, xs, rfl, ho, hx⟩ := h
  refine ⟨g, xs, rfl, ⟨ho.1, ?_⟩, hx⟩
  rcases ho.2 with h | ⟨g', cap, cur, h1, h2, h3, h4⟩
  · exact .inl h
  · refine .inr ⟨g', cap, cur, h1, h2, ?_, h4⟩
    simp only [Value.slice.injEq, Option.some.injEq, Addr.mk.injEq, and_true, true_and] at h1
    rw [← h1.1] at h3 ⊢
    rw [hb g rfl]; exact h3
theorem BRow.later {base n m : Nat} {w w' : World} {v : Value} {f : Nat → Bool} (h : BRow base w v n f m) (hb : Below w.heap.size w w') : BRow base w' v n f m :=
  h.kept fun k hk => hb.block k (by obtain ⟨g, xs, rfl, ho, hx⟩ := h; exact (ho.lt k hk).2)
theorem BRow.make {w w' : World} {base n : Nat} {xs : List Value} (f : Nat → Bool) (ho : w'.ownsRow base 4 1 (.slice (some ⟨w.heap.size, 0, none⟩) n n) n xs) : BRow base w' (.slice (some ⟨w.heap.size, 0, none⟩) n n) n f 0 :=
  ⟨_, xs, rfl, ho, fun _ hj => absurd hj (Nat.not_lt_zero _)⟩



theorem made_bools (n : Nat) : (madeCells (Value.bool false).cells (n * 1)).toList = List.replicate n (.bool false) := by
  rw [Nat.mul_one]
  exact toList_madeCells_one _ _

set_option maxRecDepth 100000 in
set_option maxHeartbeats 2000000 in
theorem refMatch_any (p s : List UInt8) (w : World) (hT : Tabs w) (hp : p.length ≤ 5000) (hs : s.length ≤ 5000) :
    Calls Tryd.prog 18 #[sv p, sv s] w fun e w' => e = .returned (.tuple #[.bool (isB p s), .int .i64 (errN p)]) ∧ Ext w w' := by
  obtain ⟨i0, hi, hz0, hz1, hz2⟩ := info_parts Tryd.info_bool
  have HT := Lib.hid hT
  have HP := Lib.hid (refParts_any p w hT hp)
  have HSL := Lib.hid (fun w hT => refLetters_any s w hT hs)
  have HLL := Lib.hid (lets_length s)
  have HLP := Lib.hid (lets_length p)
  have HPB := Lib.hid hp
  have HSB := Lib.hid hs
  generalize hB : isB p s = B
  generalize hE : errN p = E
  have HB := Lib.hid hB
  have HE := Lib.hid hE
  obtain ⟨ls, hls⟩ : ∃ ls, ls = lets s := ⟨_, rfl⟩
  have HLS := Lib.hid hls
  rw [← hls] at HSL HLL
  clear hT hE hB hp hs hls
  unfold sv at HP HSL ⊢
  go_enter Tryd.func18, Tryd.ntmps18
  go_wp2_with fail
  refine HP.out.mono ?_
  rintro e w1 ⟨⟨ps, v, h, rfl, hown⟩ | ⟨h, rfl⟩, hb⟩
  · have H := Lib.hid h
    have HB1 := Lib.hid hb
    have hel := els_len _ _ _ (Nat.le_refl _) h
    have hps : ps.length ≤ 5000 := by have := HLP.out; have := HPB.out; omega
    obtain ⟨ao, cp, rfl⟩ : ∃ ao cp, v = .slice ao ps.length cp := by
      rcases hown.2 with ⟨h1, h2⟩ | ⟨g, cap, cur, h1, _⟩
      · exact ⟨none, 0, by rw [h1, h2]⟩
      · exact ⟨_, _, h1⟩
    have HOWN := Lib.hid hown
    clear h hb hel hown
    go_wp2_with fail
    refine (HSL.out _ (HT.out.mono HB1.out)).mono ?_
    rintro e w2 ⟨lv, rfl, ho2, hb2⟩
    rw [List.length_map] at ho2
    have HB2 := Lib.hid hb2
    have HO2 := Lib.hid ho2
    obtain ⟨lo, lc, rfl, hlc1, hlc2, hlca⟩ := RdV.cellsAt (RdV.of_owns ho2)
    simp only [List.length_map] at *
    unfold maxLen at hlc2
    have HLCA := Lib.hid hlca
    have hn5 : ls.length ≤ 5000 := by have := HLL.out; have := HSB.out; omega
    clear ho2 hb2 hlca
    obtain ⟨N, hN⟩ : ∃ N, N = ls.length := ⟨_, rfl⟩
    have HN := Lib.hid hN
    rw [← hN] at hlc1 hn5 HO2 ⊢
    clear hN
    go_wp2_with (at_make; go_loud (refine wpList_make_full _ rfl (.tmp 24) (.tmp 24) 57 rfl w2.heap.size 4 i0 (.bool false) 1 Tryd.underlying57 hi hz0 hz1 .i64 .i64 _ _ (N + 1) rfl rfl (by omega) (by omega) (by rw [hz2]; omega) (by unfold maxLen; omega) (Nat.le_refl _) ?_); intro w3 hown3 hgrow3; have HOWN3 := Lib.hid hown3; have HG3 := Lib.hid hgrow3; have hc0 : w3.cell? ⟨w2.heap.size, 0, none⟩ = some (.bool false) := (by rw [HOWN3.out.cellAt 0 (by omega), made_bools, List.getElem?_replicate, if_pos (by omega)]); have hf0 := HOWN3.out.frozenAt 0; clear hown3 hgrow3)
    have HB3 := Lib.hid (show Below w2.heap.size w2 (w3.setCell ⟨w2.heap.size, 0, none⟩ (.bool true)) from ((Below.refl _ w2).grown HG3.out (Nat.le_refl _) (fun k hk => by cases hk)).setCell (Nat.le_refl _) _)
    have HR0 := Lib.hid (show BRow w2.heap.size (w3.setCell ⟨w2.heap.size, 0, none⟩ (.bool true)) (.slice (some ⟨w2.heap.size, 0, none⟩) (N + 1) (N + 1)) (N + 1) (fun k => mt (ps.take 0) (ls.take k)) (N + 1) by
      refine ⟨_, _, rfl, (HOWN3.out.stored 0 _).1, fun j hj => ?_⟩
      have hn := HN.out
      show _ = some (Value.bool (mt (ps.take 0) (ls.take j)))
      rw [made_bools, List.take_zero, dp_start ls j (by omega)]
      by_cases h0 : j = 0
      · subst h0
        rw [List.getElem?_set_self (by simp)]; rfl
      · rw [List.getElem?_set_ne (fun h => h0 h.symm), List.getElem?_replicate, if_pos hj, decide_eq_false h0])
    generalize hW3 : w3.setCell ⟨w2.heap.size, 0, none⟩ (.bool true) = W3 at HB3 HR0 ⊢
    clear hW3 hc0 hf0 HG3
    go_loopw [9, 10] (fun c i wr => ∃ j : Nat, j ≤ ps.length ∧ i = .int .i64 j ∧ BRow w2.heap.size wr c (N + 1) (fun k => mt (ps.take j) (ls.take k)) (N + 1) ∧ Below w2.heap.size w2 wr) (fun _ i _ => ps.length - (intOf i).toNat)
    case atStart => exact ⟨0, Nat.zero_le _, rfl, HR0.out, HB3.out⟩
    case round =>
      obtain ⟨j, hj, rfl, hrow, hbel⟩ := hrel
      by_cases hlt : j < ps.length
      · obtain ⟨gc, xs0, rfl, ho0, hx0⟩ := hrow
        have HROW := Lib.hid (show BRow w2.heap.size wr (.slice (some ⟨gc, 0, none⟩) (N + 1) (N + 1)) (N + 1) (fun k => mt (ps.take j) (ls.take k)) (N + 1) from ⟨gc, xs0, rfl, ho0, hx0⟩)
        have HBEL := Lib.hid hbel
        clear ho0 hx0 hbel
        go_wp2_with (at_make; go_loud (refine wpList_make_full _ rfl (.tmp 36) (.tmp 36) 57 rfl w2.heap.size 4 i0 (.bool false) 1 Tryd.underlying57 hi hz0 hz1 .i64 .i64 _ _ (N + 1) rfl rfl (by omega) (by omega) (by rw [hz2]; omega) (by unfold maxLen; omega) HBEL.out.size ?_); intro w4 hown4 hgrow4; have HOWN4 := Lib.hid hown4; have HG4 := Lib.hid hgrow4; clear hown4 hgrow4)
        have HB4 := Lib.hid (show Below wr.heap.size wr w4 from (Below.refl _ wr).grown HG4.out (Nat.le_refl _) (fun k hk => by cases hk))
        have HC4 := Lib.hid (HROW.out.later HB4.out)
        have HN4 := Lib.hid (BRow.make (fun k => mt (ps.take (j + 1)) (ls.take k)) HOWN4.out)
        have HE4 := Lib.hid (HBEL.out.trans (HB4.out.mono HBEL.out.size))
        have HGC := Lib.hid HROW.out.lt
        have HGN := Lib.hid HBEL.out.size
        obtain ⟨x, rfl⟩ : ∃ x, ao = some x := by
          rcases HOWN.out.2 with ⟨_, h2⟩ | ⟨g, cap, cur, h1, _⟩
          · omega
          · simp only [Value.slice.injEq] at h1
            exact ⟨_, h1.1⟩
        obtain ⟨g, rfl, _, hg⟩ := own_addr HOWN.out
        have HEL := Lib.hid (show ∀ wi, Below w2.heap.size w2 wi → ∀ f, f < 3 → wi.cell? ⟨g, j * 3 + f, none⟩ = (elC ps[j])[f]? from fun wi hb f hf => by
          have h1 : w1.cell? ⟨g, j * 3 + f, none⟩ = (elC ps[j])[f]? := by rw [HOWN.out.cellAt _ (by omega), flat_at ps j f hlt hf]
          rw [← h1, hb.cell (p := ⟨g, j * 3 + f, none⟩) (by have := HB2.out.size; show g < _; omega), HB2.out.cell (p := ⟨g, j * 3 + f, none⟩) hg])
        have HLT := Lib.hid (show ∀ wi, Below w2.heap.size w2 wi → ∀ m, m < N → ∃ gl c, lo = some ⟨gl, 0, none⟩ ∧ ls[m]? = some c ∧ wi.cell? ⟨gl, m, none⟩ = some (sv c) from fun wi hb m hm => by
          have hml : m < ls.length := by have := HN.out; omega
          obtain ⟨x, rfl, hc⟩ := HLCA.out m (sv ls[m]) (by rw [List.getElem?_map, List.getElem?_eq_getElem hml]; rfl)
          obtain ⟨gl, rfl, _, _⟩ := own_addr HO2.out
          rw [add_at, Nat.zero_add] at hc
          exact ⟨gl, ls[m], rfl, List.getElem?_eq_getElem hml, by rw [hb.cell (lt_of_cell hc)]; exact hc⟩)
        have HTK := Lib.hid (List.take_succ_eq_append_getElem hlt)
        generalize ps[j] = el at HEL HTK
        generalize hgn : wr.heap.size = gn at HN4 HGC HGN ⊢
        clear HOWN4 HG4 HB4 hgn
        go_wp2_with fail
        go_loopw [12] (fun i wi => ∃ m : Nat, m ≤ N + 1 ∧ i = .int .i64 m ∧ BRow w2.heap.size wi (.slice (some ⟨gn, 0, none⟩) (N + 1) (N + 1)) (N + 1) (fun k => mt (ps.take (j + 1)) (ls.take k)) m ∧ BRow w2.heap.size wi (.slice (some ⟨gc, 0, none⟩) (N + 1) (N + 1)) (N + 1) (fun k => mt (ps.take j) (ls.take k)) (N + 1) ∧ Below w2.heap.size w2 wi) (fun i _ => N + 1 - (intOf i).toNat)
        case atStart => exact ⟨0, Nat.zero_le _, rfl, HN4.out, HC4.out, HE4.out⟩
        case round =>
          obtain ⟨m, hm, rfl, hnx, hcn, hbi⟩ := hrel
          have HNX := Lib.hid hnx
          have HCN := Lib.hid hcn
          have HBI := Lib.hid hbi
          by_cases hlm : m ≤ N
          · have hcan := hcn.at m (by omega) (Nat.le_refl _)
            have hcanp : 0 < m → _ := fun h => hcn.at (m - 1) (by omega) (Nat.le_refl _)
            have hnxp : 0 < m → _ := fun h => hnx.at (m - 1) (by omega) (by omega)
            obtain ⟨un, hun⟩ := hnx.has m (by omega)
            have hnf := hnx.free m
            have hc0 := HEL.out wr hbi 0 (by decide)
            have hc1 := HEL.out wr hbi 1 (by decide)
            have hc2 := HEL.out wr hbi 2 (by decide)
            rw [Nat.add_zero] at hc0
            have hmls : m ≤ ls.length := by have := HN.out; omega
            clear hnx hcn hbi
            have HPUT := Lib.hid (fun b hb => HNX.out.put (b := b) (m := m) (by omega) hb)
            have HKEEP := Lib.hid (show ∀ b : Bool, BRow w2.heap.size (wr.setCell ⟨gn, m, none⟩ (.bool b)) (.slice (some ⟨gc, 0, none⟩) (N + 1) (N + 1)) (N + 1) (fun k => mt (ps.take j) (ls.take k)) (N + 1) from fun b => HCN.out.kept fun k hk => Below.heap_setCell _ _ _ _ (by
              have hk : gc = k := by simpa [Value.ownBlock] using hk
              have := HGC.out.2
              show k ≠ gn
              omega))
            have HNXL := Lib.hid HNX.out.lt.1
            cases el with
            | any =>
              simp only [elC, List.getElem?_cons_zero, List.getElem?_cons_succ] at hc0 hc1 hc2
              have HD := Lib.hid (show mt (ps.take (j + 1)) (ls.take m) = (mt (ps.take j) (ls.take m) || (decide (0 < m) && mt (ps.take (j + 1)) (ls.take (m - 1)))) by rw [HTK.out]; exact dp_any (ps.take j) ls m hmls)
              clear hcanp hc1 hc2
              by_cases hb0 : mt (ps.take j) (ls.take m) = true
              · rw [hb0] at hcan
                have HB0 := Lib.hid hb0
                clear hnxp hb0
                go_wp2_with fail
                go_roundw
                case rel => exact ⟨m + 1, by omega, by go_num, HPUT.out true (HD.out.trans (by rw [HB0.out, Bool.true_or])).symm, HKEEP.out _, HBI.out.setCell HNXL.out _⟩
                case measure => simp [intOf] <;> omega
              · have hb0' : mt (ps.take j) (ls.take m) = false := by simpa using hb0
                rw [hb0'] at hcan
                have HB0 := Lib.hid hb0'
                clear hb0 hb0'
                by_cases hm0 : 0 < m
                · have hnp := hnxp hm0
                  have hmd : decide (0 < m) = true := decide_eq_true hm0
                  have HMD := Lib.hid hmd
                  generalize hbb : mt (ps.take (j + 1)) (ls.take (m - 1)) = b at hnp
                  have HBB := Lib.hid hbb
                  clear hnxp hbb
                  go_wp2_with fail
                  go_roundw
                  case rel => exact ⟨m + 1, by omega, by go_num, HPUT.out b (HD.out.trans (by rw [HB0.out, HMD.out, HBB.out, Bool.false_or, Bool.true_and])).symm, HKEEP.out _, HBI.out.setCell HNXL.out _⟩
                  case measure => simp [intOf] <;> omega
                · have hm00 : m = 0 := by omega
                  subst hm00
                  clear hnxp hm0
                  go_wp2_with fail
                  go_roundw
                  case rel => exact ⟨0 + 1, by omega, by go_num, HPUT.out false (HD.out.trans (by first | (rw [HB0.out]; done) | (rw [HB0.out]; simp))).symm, HKEEP.out _, HBI.out.setCell HNXL.out _⟩
                  case measure => simp [intOf] <;> omega
            | one =>
              simp only [elC, List.getElem?_cons_zero, List.getElem?_cons_succ] at hc0 hc1 hc2
              have HD := Lib.hid (show mt (ps.take (j + 1)) (ls.take m) = (decide (0 < m) && mt (ps.take j) (ls.take (m - 1))) by rw [HTK.out]; exact dp_one (ps.take j) ls m hmls)
              clear hnxp hcan hc2
              by_cases hm0 : 0 < m
              · have hcp := hcanp hm0
                have hmd : decide (0 < m) = true := decide_eq_true hm0
                have HMD := Lib.hid hmd
                clear hcanp
                cases hbb : mt (ps.take j) (ls.take (m - 1)) with
                | true =>
                  rw [hbb] at hcp
                  have HBB := Lib.hid hbb
                  clear hbb
                  go_wp2_with fail
                  go_region
                  go_wp2_with fail
                  go_roundw
                  case rel => exact ⟨m + 1, by omega, by go_num, HPUT.out true (HD.out.trans (by rw [HMD.out, HBB.out]; rfl)).symm, HKEEP.out _, (HBI.out.setCell HNXL.out _).drew⟩
                  case measure => simp [intOf] <;> omega
                | false =>
                  rw [hbb] at hcp
                  have HBB := Lib.hid hbb
                  clear hbb
                  go_wp2_with fail
                  go_region
                  go_wp2_with fail
                  go_roundw
                  case rel => exact ⟨m + 1, by omega, by go_num, HPUT.out false (HD.out.trans (by rw [HMD.out, HBB.out]; rfl)).symm, HKEEP.out _, (HBI.out.setCell HNXL.out _).drew⟩
                  case measure => simp [intOf] <;> omega
              · have hm00 : m = 0 := by omega
                subst hm00
                clear hcanp hm0
                go_wp2_with fail
                go_region
                go_wp2_with fail
                go_roundw
                case rel => exact ⟨0 + 1, by omega, by go_num, HPUT.out false (HD.out.trans (by simp)).symm, HKEEP.out _, (HBI.out.setCell HNXL.out _).drew⟩
                case measure => simp [intOf] <;> omega
            | lit c =>
              simp only [elC, List.getElem?_cons_zero, List.getElem?_cons_succ] at hc0 hc1 hc2
              have HD := Lib.hid (show mt (ps.take (j + 1)) (ls.take m) = (decide (0 < m) && (mt (ps.take j) (ls.take (m - 1)) && decide (ls[m - 1]? = some c))) by rw [HTK.out]; exact dp_lit c (ps.take j) ls m hmls)
              unfold sv at hc2
              clear hnxp hcan
              by_cases hm0 : 0 < m
              · have hcp := hcanp hm0
                have hmd : decide (0 < m) = true := decide_eq_true hm0
                have HMD := Lib.hid hmd
                clear hcanp
                cases hbb : mt (ps.take j) (ls.take (m - 1)) with
                | true =>
                  rw [hbb] at hcp
                  have HBB := Lib.hid hbb
                  obtain ⟨gl, c', rfl, hlc', hcl⟩ := HLT.out wr HBI.out (m - 1) (by omega)
                  unfold sv at hcl
                  have HLC' := Lib.hid hlc'
                  clear hbb hlc'
                  by_cases hcc : c = c'
                  · subst hcc
                    go_wp2_with fail
                    go_region
                    go_wp2_with fail
                    go_roundw
                    case rel => exact ⟨m + 1, by omega, by go_num, HPUT.out true (HD.out.trans (by rw [HMD.out, HBB.out, HLC'.out]; simp)).symm, HKEEP.out _, (HBI.out.setCell HNXL.out _).drew⟩
                    case measure => simp [intOf] <;> omega
                  · have hq : (c == c') = false := beq_eq_false_iff_ne.2 hcc
                    have HQ := Lib.hid (show decide (ls[m - 1]? = some c) = false by rw [HLC'.out]; exact decide_eq_false (fun h => hcc (by cases h; rfl)))
                    clear hcc
                    go_wp2_with fail
                    go_region
                    go_wp2_with fail
                    go_roundw
                    case rel => exact ⟨m + 1, by omega, by go_num, HPUT.out false (HD.out.trans (by rw [HMD.out, HBB.out, HQ.out]; rfl)).symm, HKEEP.out _, (HBI.out.setCell HNXL.out _).drew⟩
                    case measure => simp [intOf] <;> omega
                | false =>
                  rw [hbb] at hcp
                  have HBB := Lib.hid hbb
                  clear hbb
                  go_wp2_with fail
                  go_region
                  go_wp2_with fail
                  go_roundw
                  case rel => exact ⟨m + 1, by omega, by go_num, HPUT.out false (HD.out.trans (by rw [HMD.out, HBB.out]; rfl)).symm, HKEEP.out _, (HBI.out.setCell HNXL.out _).drew⟩
                  case measure => simp [intOf] <;> omega
              · have hm00 : m = 0 := by omega
                subst hm00
                clear hcanp hm0
                go_wp2_with fail
                go_region
                go_wp2_with fail
                go_roundw
                case rel => exact ⟨0 + 1, by omega, by go_num, HPUT.out false (HD.out.trans (by simp)).symm, HKEEP.out _, (HBI.out.setCell HNXL.out _).drew⟩
                case measure => simp [intOf] <;> omega
          · have hmN : m = N + 1 := by omega
            subst hmN
            clear hnx hcn hbi
            go_wp2_with fail
            go_roundw
            case rel => exact ⟨j + 1, by omega, by go_num, HNX.out, HBI.out⟩
            case measure => simp [intOf] <;> omega
      · have hjP : j = ps.length := by omega
        obtain ⟨gc, xs0, rfl, ho0, hx0⟩ := hrow
        have hrow : BRow w2.heap.size wr (.slice (some ⟨gc, 0, none⟩) (N + 1) (N + 1)) (N + 1) (fun k => mt (ps.take j) (ls.take k)) (N + 1) := ⟨gc, xs0, rfl, ho0, hx0⟩
        have hcl := hrow.at N (by omega) (Nat.le_refl _)
        have hfin : mt (ps.take j) (ls.take N) = B := by
          rw [hjP, List.take_length, HN.out, List.take_length, HLS.out, ← HB.out, isB_some H.out]
        have hcl : wr.cell? ⟨gc, N, none⟩ = some (.bool B) := by rw [hcl, hfin]
        have HBEL := Lib.hid hbel
        subst hjP
        clear ho0 hx0 hrow hfin hbel
        go_wp2_with fail
        go_ret2
        exact ⟨by rw [← HE.out, errN_some H.out]; rfl, Ext.trans HB1.out (Ext.trans HB2.out HBEL.out)⟩
  · have H := Lib.hid h
    have HBE := Lib.hid hb
    clear h hb
    go_wp2_with fail
    go_ret2
    have hz : isB p s = false := by unfold isB; rw [H.out]
    exact ⟨by rw [← HB.out, ← HE.out, errN_none H.out, hz]; rfl, HBE.out⟩

end Go.Proofs.YtmlaedhmgkcdpaaDoor
