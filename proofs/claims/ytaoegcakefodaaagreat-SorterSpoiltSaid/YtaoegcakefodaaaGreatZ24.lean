/-
  Texts of this proof, merged.
-/
import Derived.Test.YtaoegcakefodaaaGreatZ1
import Derived.Test.YtaoegcakefodaaaGreatZ2
import Derived.Test.YtaoegcakefodaaaGreatZ3
import Derived.Test.YtaoegcakefodaaaGreatZ4
import Derived.Test.YtaoegcakefodaaaGreatZ5
import Derived.Test.YtaoegcakefodaaaGreatZ6
import Derived.Test.YtaoegcakefodaaaGreatZ7
import Derived.Test.YtaoegcakefodaaaGreatZ8
import Derived.Test.YtaoegcakefodaaaGreatZ9
import Derived.Test.YtaoegcakefodaaaGreatZ10
import Derived.Test.YtaoegcakefodaaaGreatZ11
import Derived.Test.YtaoegcakefodaaaGreatZ12
import Derived.Test.YtaoegcakefodaaaGreatZ13
import Derived.Test.YtaoegcakefodaaaGreatZ14
import Derived.Test.YtaoegcakefodaaaGreatZ15
import Derived.Test.YtaoegcakefodaaaGreatZ16
import Derived.Test.YtaoegcakefodaaaGreatZ17
import Derived.Test.YtaoegcakefodaaaGreatZ18
import Derived.Test.YtaoegcakefodaaaGreatZ19
import Derived.Test.YtaoegcakefodaaaGreatZ20
import Derived.Test.YtaoegcakefodaaaGreatZ21
import Derived.Test.YtaoegcakefodaaaGreatZ22
import Derived.Test.YtaoegcakefodaaaGreatZ23
namespace Go.Proofs.YtaoegcakefodaaaGreat
open Go.RowKit Go.BigFrame
set_option maxRecDepth 100000 in
set_option maxHeartbeats 2000000 in
theorem pRuns18_any (u : Value) (rows : List (List V)) (most : Int) (w : World) (hu : RdRows w u rows) (hl : rows.length ≤ 1000) (hf : ∀ r ∈ rows, rowCost r ≤ 1000000000) (hm : -9223372036854775808 ≤ most ∧ most ≤ 9223372036854775807) :
    Calls Tryz.prog 26 #[u, .int .i64 most] w fun e w' => e = .returned (.tuple #[.int .i64 ((runsR rows most).1 : Nat), .int .i64 (runsR rows most).2]) ∧ Ext w w' := by
  obtain ⟨ua, uc, rfl, hu1, hu2⟩ := hu.shape
  obtain ⟨hm0, hm1⟩ := hm
  unfold maxLen at hu2
  obtain ⟨fh, hfh, -, -, -, hat⟩ := hu.heads
  obtain ⟨N, hN⟩ : ∃ N, rows.length = N := ⟨_, rfl⟩
  have HN := Lib.hid hN
  have HFH := Lib.hid hfh
  have HAT := Lib.hid hat
  have HC := Lib.hid hf
  rw [hN] at hu1 hl ⊢
  clear hu hfh hat hf hN
  go_enter Tryz.func26, Tryz.ntmps26
  go_wp2_with fail
  go_loopw [6, 7, 13] (fun mv lv iv wr => ∃ (j m : Nat) (l : Int), j ≤ N ∧ m ≤ j ∧ mv = .int .i64 m ∧ lv = .int .i64 l ∧ iv = .int .i64 j ∧ 0 ≤ l ∧ (l = 0 ∨ l ≤ most) ∧ (m = 0 → l = 0) ∧ runsG most (rows.drop j) m l = runsR rows most ∧ Ext w wr) (fun _ _ iv _ => N - (intOf iv).toNat)
  case atStart => exact ⟨0, 0, 0, Nat.zero_le _, Nat.le_refl _, rfl, rfl, rfl, Int.le_refl _, .inl rfl, fun _ => rfl, by rw [List.drop_zero]; rfl, Ext.keeps.refl _⟩
  case round =>
    obtain ⟨j, m, l, hj, hmj, rfl, rfl, rfl, hl0, hlm, hm0l, hG, hx⟩ := hrel
    have HG := Lib.hid hG
    have HX := Lib.hid hx
    have HM0 := Lib.hid hm0l
    have HLM := Lib.hid hlm
    clear hG hx hm0l hlm
    by_cases hlt : j < N
    · have hjl : j < rows.length := by rw [HN.out]; exact hlt
      obtain ⟨a1, a2, a3, ha, hra⟩ := HFH.out.get j hjl
      obtain ⟨g, off, rfl, c0⟩ := HAT.out j _ ha
      have x0 := (HX.out.cell (lt_of_cell c0)).trans c0
      have hcj := HC.out rows[j] (List.getElem_mem hjl)
      have hdrop : rows.drop j = rows[j] :: rows.drop (j + 1) := List.drop_eq_getElem_cons hjl
      have HG2 := Lib.hid (show runsG most (rows[j] :: rows.drop (j + 1)) m l = runsR rows most from by rw [← hdrop]; exact HG.out)
      have HROW := Lib.hid (purRow_any _ rows[j] wr (hra.mono HX.out) (by omega))
      have hpos := rowCost_pos rows[j]
      generalize rows[j] = r at HG2 HROW hcj hpos
      obtain ⟨n, hn⟩ : ∃ n, rowCost r = n := ⟨_, rfl⟩
      have HNC := Lib.hid hn
      rw [hn] at HROW hcj hpos
      clear ha hra c0 hdrop hn hjl
      by_cases h1 : most < n
      · have d1 : decide (n > most) = true := decide_eq_true h1
        have HE := Lib.hid (show runsR rows most = (0, 5) from by rw [← HG2.out]; exact runsG_too (by rw [HNC.out]; exact h1))
        go_wp2_with fail
        refine HROW.out.mono ?_
        rintro e w1 ⟨rfl, hx1⟩
        have HX1 := Lib.hid (Ext.trans HX.out hx1)
        clear hx1
        go_wp2_with fail
        go_ret2
        rw [HE.out]
        exact ⟨rfl, HX1.out⟩
      · have d1 : decide (n > most) = false := decide_eq_false h1
        by_cases h2 : l < n
        · have d2 : decide (n > l) = true := decide_eq_true h2
          go_wp2_with fail
          refine HROW.out.mono ?_
          rintro e w1 ⟨rfl, hx1⟩
          have HX1 := Lib.hid (Ext.trans HX.out hx1)
          clear hx1
          go_wp2_with fail
          go_roundw
          case rel =>
            refine ⟨j + 1, m + 1, most - n, by omega, by omega, by go_num, rfl, by go_num, by omega, .inr (by omega), fun h => by omega, ?_, HX1.out⟩
            rw [← HG2.out, runsG_new (by rw [HNC.out]; omega) (.inr (by rw [HNC.out]; omega)), HNC.out]
          case measure => simp [intOf]; omega
        · have d2 : decide (n > l) = false := decide_eq_false h2
          have hmne : ¬ m = 0 := fun e => by have := HM0.out e; omega
          have hlm2 : l ≤ most := by have := HLM.out; omega
          go_wp2_with fail
          refine HROW.out.mono ?_
          rintro e w1 ⟨rfl, hx1⟩
          have HX1 := Lib.hid (Ext.trans HX.out hx1)
          clear hx1
          go_wp2_with fail
          go_roundw
          case rel =>
            refine ⟨j + 1, m, l - n, by omega, by omega, rfl, rfl, by go_num, by omega, .inr (by omega), fun h => absurd h hmne, ?_, HX1.out⟩
            rw [← HG2.out, runsG_in (by rw [HNC.out]; omega) (by rw [HNC.out]; omega), HNC.out]
          case measure => simp [intOf]; omega
    · have hg := HG.out
      rw [List.drop_of_length_le (by have := HN.out; omega)] at hg
      have HE := Lib.hid (show runsR rows most = (m, 0) from hg.symm)
      clear hg
      go_wp2_with fail
      go_ret2
      rw [HE.out]
      exact ⟨rfl, HX.out⟩
end Go.Proofs.YtaoegcakefodaaaGreat

namespace Go.Proofs.YtaoegcakefodaaaGreat
open Go.RowKit Go.BigFrame
def greatR (rows : List (List V)) : Int := rows.foldl (fun n r => max n (rowCost r)) 0
def RoomM18 (left : Int) (rows : List (List V)) (fan : Int) : Prop := fan * greatR rows ≤ left
def RoomD18 (s : St) (left : Int) (rows : List (List V)) : Prop :=
  ((runsR rows left).2 = 0 → 2 * needS ((rowsB rows).length : Int) + 2 * ((runsR rows left).1 : Int) + 3 ≤ (s.length : Int) - usedS s) ∧
  ((runsR rows left).2 ≠ 0 → 2 * needS ((rowsB rows).length : Int) + (rows.length : Int) ≤ (s.length : Int) - usedS s)
def Sorted18 (Y O : Nat → Prop) (w : World) (p q : Nat) (s : St) (pu : Pu) (rows : List (List V)) (ks : List Ky) (fan : Int) (e : Ending) (w' : World) : Prop :=
  ∃ out E O' pu', e = .returned (.tuple #[out, .int .i64 E]) ∧ PSto O' w' p s ∧ PurS w' q pu' ∧ pu'.most = pu.most ∧ pu'.now = pu.now ∧ OnlyS (fun b => O b ∨ b = q) w w' ∧ (∀ b, O' b → O b ∨ w.heap.size ≤ b) ∧ ¬ O' q ∧
    ((fan < 2 ∨ 16 < fan) → E = 1) ∧
    (2 ≤ fan → fan ≤ 16 → (E = 0 ∨ E = 4 ∨ E = 5) ∧ ((runsR rows (pu.most - pu.now)).2 ≠ 0 → E ≠ 0) ∧ ((runsR rows (pu.most - pu.now)).2 = 0 → (runsR rows (pu.most - pu.now)).1 < 2 → E = 0) ∧ (RoomM18 (pu.most - pu.now) rows fan → E ≠ 5) ∧ (RoomD18 s (pu.most - pu.now) rows → E ≠ 4)) ∧
    (E = 0 → ∀ W, OnlyS (fun b => (Y b ∧ b < w.heap.size) ∨ O' b) w' W → RdRV W out (sortS ks rows)) ∧ (E ≠ 0 → RdRows w' out [])
theorem great_le18 (rows : List (List V)) : 0 ≤ greatR rows ∧ ∀ x ∈ rows, rowCost x ≤ greatR rows := by
  have key : ∀ (l : List (List V)) (n : Int), n ≤ l.foldl (fun n r => max n (rowCost r)) n ∧ ∀ x ∈ l, rowCost x ≤ l.foldl (fun n r => max n (rowCost r)) n := fun l => by
    induction l with
    | nil => exact fun n => ⟨Int.le_refl _, fun x hx => by simp at hx⟩
    | cons r tl ih =>
      intro n
      obtain ⟨h1, h2⟩ := ih (max n (rowCost r))
      rw [List.foldl_cons]
      refine ⟨by omega, fun x hx => ?_⟩
      rcases List.mem_cons.1 hx with rfl | hx
      · omega
      · exact h2 x hx
  exact key rows 0
def Over18 (p q : Nat) (s0 : St) (most base : Int) (O1 D : Nat → Prop) (w1 : World) (e : Ending) (w' : World) : Prop :=
  e = .returned (.tuple #[]) ∧ ∃ O' pu', PSto O' w' p s0 ∧ PurS w' q pu' ∧ pu'.most = most ∧ pu'.now = base ∧ OnlyS (fun b => O1 b ∨ b = q ∨ D b) w1 w' ∧ ∀ b, O' b → O1 b ∨ w1.heap.size ≤ b
theorem pOver18_any {B p q t : Nat} {ks : List Ky} {K : Value} {s0 : St} {most base : Int} {O : Nat → Prop} {w : World} {s : St} {held : Int} {R : Value} {rs : List Run} (h : Srt B p q t ks K s0 most base O w s held R rs) (hb0 : 0 ≤ base) (u : FrameMode) :
    CallsD Tryz.prog 39 #[.pointer (some ⟨t, 0, none⟩)] u w fun e u' w' => u' = u ∧ Over18 p q s0 most base O (WkO t R rs) w e w' := by
  obtain ⟨pk, hpk⟩ := h.pur
  refine (pEnd18_any B O p q t s _ K held R rs u w h.sto h.ok hpk h.mem h.qB h.oq h.ow h.h0 (by simp only; omega)).mono ?_
  rintro e u' w' ⟨rfl, O', rfl, k1, k2, k3, k4⟩
  have hup : Upon s0 s (rs.flatMap Run.ids ++ []) := by rw [List.append_nil]; exact h.dsk.upon
  rw [hup.drop.eq] at k1
  exact ⟨rfl, rfl, O', _, k1, k2, rfl, by simp only; omega, k3, k4⟩
theorem Srt.begin {p q : Nat} {ks : List Ky} {x : Value} {s : St} {pu : Pu} {O : Nat → Prop} {w : World} (h : PSto O w p s) (hok : okS s) (hq : PurS w q pu) (hO : ¬ O q) :
    Srt w.heap.size p q w.heap.size ks x s pu.most pu.now O (w.alloc (.cells #[.pointer (some ⟨p, 0, none⟩), .pointer (some ⟨q, 0, none⟩), x, .int .i64 0, .slice none 0 0] 82)) s 0 (.slice none 0 0) [] := by
  have hx := ext_new w (.cells #[.pointer (some ⟨p, 0, none⟩), .pointer (some ⟨q, 0, none⟩), x, .int .i64 0, .slice none 0 0] 82)
  have hlt := hq.lt
  refine ⟨h.mono hx, hok, ⟨pu.peak, by rw [Int.add_zero]; exact hq.ext hx⟩, ⟨Blk.new w _ _, owns_nil _ _ _ _, ⟨fun r hr => by simp at hr, List.Pairwise.nil⟩, Nat.le_refl _, (fun e => by cases e), fun r hr => by simp at hr⟩, hlt, hO, fun b hb h2 => ?_, OnD.nil ks s, fun r hr => by simp at hr, Int.le_refl _, hx.size⟩
  have h3 := h.lt b hb
  rcases h2 with rfl | h2 | ⟨r, hr, -⟩
  · omega
  · cases h2
  · simp at hr
section
variable {Y O : Nat → Prop} {w : World} {p q : Nat} {s : St} {pu : Pu} {rows : List (List V)} {ks : List Ky} {fan : Int}
theorem Sorted18.no {w1 w' : World} {O1 D : Nat → Prop} {e0 : Ending} {E : Int} (hf : 2 ≤ fan ∧ fan ≤ 16) (h : Over18 p q s pu.most pu.now O1 D w1 e0 w') (hq : PurS w q pu) (hoq : ¬ O q) (ho : OnlyS (fun x => O x ∨ x = q ∨ w.heap.size ≤ x) w w1) (hO : ∀ x, O1 x → O x ∨ w.heap.size ≤ x) (hD : ∀ x, D x → w.heap.size ≤ x)
    (hE : (E = 5 ∧ ((∃ x ∈ rows, pu.most - pu.now < rowCost x) ∨ TooMuch (pu.most - pu.now) fan.toNat rows) ∧ ((runsR rows (pu.most - pu.now)).2 = 0 → 2 ≤ (runsR rows (pu.most - pu.now)).1)) ∨
      (E = 4 ∧ ∃ n, NoRoom s rows n ∧ n ≤ rows.length ∧ ((runsR rows (pu.most - pu.now)).2 = 0 → n ≤ (runsR rows (pu.most - pu.now)).1 ∧ 2 ≤ (runsR rows (pu.most - pu.now)).1))) :
    Sorted18 Y O w p q s pu rows ks fan (.returned (.tuple #[.slice none 0 0, .int .i64 E])) w' := by
  obtain ⟨-, O', pu', h1, h2, h3, h4, h5, h6⟩ := h
  have hs1 := ho.size
  have hO' : ∀ x, O' x → O x ∨ w.heap.size ≤ x := fun x hx => by
    rcases h6 x hx with h7 | h7
    · exact hO x h7
    · exact .inr (by omega)
  have hqlt := hq.lt
  refine ⟨_, E, O', pu', rfl, h1, h2, h3, h4, OnlyS.trans (ho.mono (Y := fun x => O x ∨ x = q) fun x hx h => ?_) h5 fun x hx h => ?_, hO', fun h7 => ?_, fun h7 => by omega, fun _ _ => ⟨?_, fun _ => ?_, fun hr hl => ?_, fun hr => ?_, fun hr => ?_⟩, fun h7 => ?_, fun _ => (RdRV.nil w').rd⟩
  · rcases h with h | h | h
    · exact .inl h
    · exact .inr h
    · omega
  · rcases h with h | h | h
    · rcases hO x h with h8 | h8
      · exact .inl h8
      · omega
    · exact .inr h
    · have := hD x h; omega
  · rcases hO' q h7 with h8 | h8
    · exact hoq h8
    · omega
  · rcases hE with ⟨h, -⟩ | ⟨h, -⟩ <;> omega
  · rcases hE with ⟨h, -⟩ | ⟨h, -⟩ <;> omega
  · rcases hE with ⟨h, -, h8⟩ | ⟨h, n, -, -, h8⟩
    · have := h8 hr; omega
    · have := (h8 hr).2; omega
  · rcases hE with ⟨h, h8, -⟩ | ⟨h, -⟩
    · unfold RoomM18 at hr
      obtain ⟨g0, g1⟩ := great_le18 rows
      rcases h8 with ⟨x, hx, h8⟩ | h8
      · have h9 := g1 x hx
        have h10 : 2 * greatR rows ≤ fan * greatR rows := Int.mul_le_mul_of_nonneg_right hf.1 g0
        omega
      · have h9 := h8 (greatR rows) g0 g1
        have e : ((fan.toNat : Nat) : Int) = fan := Int.toNat_of_nonneg (by omega)
        rw [e] at h9
        omega
    · omega
  · rcases hE with ⟨h, -⟩ | ⟨h, n, h8, h9, h10⟩
    · omega
    · unfold NoRoom at h8
      obtain ⟨r1, r2⟩ := hr
      by_cases hz : (runsR rows (pu.most - pu.now)).2 = 0
      · have := r1 hz
        have := (h10 hz).1
        omega
      · have := r2 hz
        omega
  · rcases hE with ⟨h, -⟩ | ⟨h, -⟩ <;> omega
theorem Sorted18.yes {w1 w' : World} {O1 D : Nat → Prop} {e0 : Ending} {out : Value} (hf : 2 ≤ fan ∧ fan ≤ 16) (h : Over18 p q s pu.most pu.now O1 D w1 e0 w') (hq : PurS w q pu) (hoq : ¬ O q) (ho : OnlyS (fun x => O x ∨ x = q ∨ w.heap.size ≤ x) w w1) (hO : ∀ x, O1 x → O x ∨ w.heap.size ≤ x) (hD : ∀ x, D x → w.heap.size ≤ x)
    (hr : (runsR rows (pu.most - pu.now)).2 = 0) (hout : ∀ W Z, OnlyS Z w1 W → (∀ x, Z x → O1 x ∨ x < w.heap.size ∨ D x ∨ w1.heap.size ≤ x) → RdRV W out (sortS ks rows)) :
    Sorted18 Y O w p q s pu rows ks fan (.returned (.tuple #[out, .int .i64 0])) w' := by
  obtain ⟨-, O', pu', h1, h2, h3, h4, h5, h6⟩ := h
  have hs1 := ho.size
  have hO' : ∀ x, O' x → O x ∨ w.heap.size ≤ x := fun x hx => by
    rcases h6 x hx with h7 | h7
    · exact hO x h7
    · exact .inr (by omega)
  have hqlt := hq.lt
  refine ⟨_, 0, O', pu', rfl, h1, h2, h3, h4, OnlyS.trans (ho.mono (Y := fun x => O x ∨ x = q) fun x hx h => ?_) h5 fun x hx h => ?_, hO', fun h7 => ?_, fun h7 => by omega, fun _ _ => ⟨.inl rfl, fun h7 => absurd hr h7, fun _ _ => rfl, fun _ => by decide, fun _ => by decide⟩, fun _ W hW => ?_, fun h7 => absurd rfl h7⟩
  · rcases h with h | h | h
    · exact .inl h
    · exact .inr h
    · omega
  · rcases h with h | h | h
    · rcases hO x h with h8 | h8
      · exact .inl h8
      · omega
    · exact .inr h
    · have := hD x h; omega
  · rcases hO' q h7 with h8 | h8
    · exact hoq h8
    · omega
  · refine hout W (fun x => (O1 x ∨ x = q ∨ D x) ∨ ((Y x ∧ x < w.heap.size) ∨ O' x)) (OnlyS.trans (h5.mono fun x _ h => .inl h) (hW.mono fun x _ h => .inr h) fun _ _ h => h) fun x hx => ?_
    rcases hx with (hx | hx | hx) | hx | hx
    · exact .inl hx
    · exact .inr (.inl (by omega))
    · exact .inr (.inr (.inl hx))
    · exact .inr (.inl hx.2)
    · rcases h6 x hx with h7 | h7
      · exact .inl h7
      · exact .inr (.inr (.inr h7))
end
set_option maxRecDepth 100000 in
set_option maxHeartbeats 8000000 in
theorem pSort18_any (Y O : Nat → Prop) (p q : Nat) (s : St) (pu : Pu) (u x : Value) (rows : List (List V)) (ks : List Ky) (fan : Int) (w : World) (h : PSto O w p s) (hok : okS s) (hq : PurS w q pu) (hO : ¬ O q)
    (hY : ∀ b, O b ∨ b = q → Y b) (hu : ∀ W, OnlyS Y w W → RdRV W u rows) (hx : ∀ W, OnlyS Y w W → RdKs W x ks) (hk : ks.length ≤ 1000000) (hl : rows.length ≤ 1000) (hf : ∀ r ∈ rows, mayR r = 0 ∧ FitR 5000 r) (hfan : -9223372036854775808 ≤ fan ∧ fan ≤ 9223372036854775807) :
    Calls Tryz.prog 18 #[.pointer (some ⟨p, 0, none⟩), .pointer (some ⟨q, 0, none⟩), u, x, .int .i64 fan] w (Sorted18 Y O w p q s pu rows ks fan) := by
  obtain ⟨ua, uc, rfl, -, -⟩ := (hu w (OnlyS.refl _ _)).shape
  obtain ⟨xa, xc, rfl, -, -⟩ := (hx w (OnlyS.refl _ _)).shape
  obtain ⟨hf0, hf1⟩ := hfan
  have HP := Lib.hid h
  have HQ := Lib.hid hq
  have HO := Lib.hid hO
  have HPO := Lib.hid (fun w' (hx : Ext w w') => h.mono hx)
  by_cases hbad : fan < 2 ∨ 16 < fan
  · have HBAD := Lib.hid hbad
    have hpost : ∀ out, (∀ W : World, RdRows W out []) → Sorted18 Y O w p q s pu rows ks fan (.returned (.tuple #[out, .int .i64 1])) w := fun out ho => ⟨out, 1, O, pu, rfl, h, hq, rfl, rfl, OnlyS.refl _ _, fun b hb => .inl hb, hO, fun _ => rfl, fun h2 h3 => by omega, (fun h2 => by cases h2), fun _ => ho w⟩
    have HPOST := Lib.hid hpost
    clear hpost h hok hq hO hY hu hx hk hl hf HPO
    rcases hbad with h2 | h2
    · go_enter_defers Tryz.func18, Tryz.ntmps18
      go_wp2_with fail
      refine ⟨_, results_tmp2 rfl _ _ _, ?_⟩
      exact HPOST.out _ fun W => (RdRV.nil W).rd
    · have h3 : ¬ fan < 2 := by omega
      have d1 : decide (fan > 16) = true := decide_eq_true (by omega)
      have d2 : decide (fan < 2) = false := decide_eq_false (by omega)
      go_enter_defers Tryz.func18, Tryz.ntmps18
      go_wp2_with fail
      refine ⟨_, results_tmp2 rfl _ _ _, ?_⟩
      exact HPOST.out _ fun W => (RdRV.nil W).rd
  · obtain ⟨F, rfl⟩ : ∃ F : Nat, fan = (F : Int) := ⟨fan.toNat, by omega⟩
    have hF2 : 2 ≤ F := by omega
    have hF16 : F ≤ 16 := by omega
    have hff : (2 : Int) ≤ (F : Int) ∧ (F : Int) ≤ 16 := by omega
    have HFF := Lib.hid hff
    have hb0 : 0 ≤ pu.now := hq.ok.n0
    have hfit : FitB rows := ⟨hl, fun r hr => ⟨by
      have h1 := (hf r hr).1
      unfold mayR at h1
      split at h1
      · cases h1
      · omega, (hf r hr).2⟩⟩
    have hbeg := Srt.begin (ks := ks) (x := .slice xa ks.length xc) h hok hq hO
    have hx1 := ext_new w (.cells #[.pointer (some ⟨p, 0, none⟩), .pointer (some ⟨q, 0, none⟩), .slice xa ks.length xc, .int .i64 0, .slice none 0 0] 82)
    have hyW : ∀ W, OnlyS (fun y => O y ∨ y = q ∨ w.heap.size ≤ y) w W → OnlyS Y w W := fun W hW => hW.mono fun y hy h2 => by
      rcases h2 with h2 | h2 | h2
      · exact hY y (.inl h2)
      · exact hY y (.inr h2)
      · omega
    have HU := Lib.hid (fun W (hW : OnlyS (fun y => O y ∨ y = q ∨ w.heap.size ≤ y) w W) => hu W (hyW W hW))
    have HK := Lib.hid (fun W (hW : OnlyS (fun y => O y ∨ y = q ∨ w.heap.size ≤ y) w W) => hx W (hyW W hW))
    have htr : ∀ W, OnlyS (fun y => O y ∨ y = q ∨ w.heap.size ≤ y) (w.alloc (.cells #[.pointer (some ⟨p, 0, none⟩), .pointer (some ⟨q, 0, none⟩), .slice xa ks.length xc, .int .i64 0, .slice none 0 0] 82)) W → OnlyS (fun y => O y ∨ y = q ∨ w.heap.size ≤ y) w W := fun W hW => OnlyS.trans (OnlyS.of_ext hx1) hW fun _ _ h => h
    have HSPL := Lib.hid (pSplit18_any w.heap.size p q w.heap.size ks _ s pu.most pu.now O _ _ rows hbeg (fun W hW => HU.out W (htr W hW)) (fun W hW => HK.out W (htr W hW)) hfit (fun r hr => (hf r hr).1) hb0)
    have HFIT := Lib.hid hfit
    have HMAY := Lib.hid (fun r hr => (hf r hr).1)
    have HTR := Lib.hid htr
    have hs1 := hx1.size
    clear h hok hq hO hY hu hx hf hbeg hx1 hyW htr hbad hff hfit
    go_enter_defers Tryz.func18, Tryz.ntmps18
    go_wp2_with fail
    refine HSPL.out.mono ?_
    rintro e w2 ⟨out, E, O2, s2, held2, R2, rs2, rfl, hS2, ho2, hO2, hE⟩
    have HS2 := Lib.hid hS2
    have HO2b := Lib.hid ho2
    have HO2 := Lib.hid (HTR.out w2 ho2)
    have HON2 := Lib.hid (show ∀ x, O2 x → O x ∨ w.heap.size ≤ x from fun x hx => (hO2 x hx).imp id fun h => by omega)
    have HD2 := Lib.hid (show ∀ x, WkO w.heap.size R2 rs2 x → w.heap.size ≤ x from fun x hx => (hS2.mem.lt hx).1)
    have hsz2 := HO2.out.size
    clear ho2 hO2 HSPL
    rcases hE with ⟨rfl, fst, hfst, hout, hflat, hrl, hfl, hr0, hr1⟩ | ⟨rfl, rfl, hr, hx⟩ | ⟨rfl, rfl, n, hno, hn1, hn2⟩
    · have HOUT := Lib.hid hout
      have HFLAT := Lib.hid hflat
      have HFL := Lib.hid hfl
      have HR0 := Lib.hid hr0
      have HR1 := Lib.hid hr1
      have hrow := hS2.mem.row
      obtain ⟨N, hN⟩ : ∃ N, rs2.length = N := ⟨_, rfl⟩
      have HN := Lib.hid hN
      rw [hN] at hrow hrl
      obtain ⟨ra, rc, rfl, -, -⟩ := own_shapeP hrow
      have c4 := hS2.mem.blk.cell 4 _ rfl
      clear hout hflat hfl hr0 hr1 hrow hN hS2
      by_cases hz : N = 0
      · subst hz
        have hrs : rs2 = [] := List.eq_nil_of_length_eq_zero HN.out
        have hall : rows.drop fst = rows := by
          have h1 := HFLAT.out
          rw [hrs] at h1
          have h2 : rows.take fst = [] := h1.symm
          conv => rhs; rw [← List.take_append_drop fst rows, h2]
          rfl
        have hu2 := HOUT.out w2 HO2b.out
        rw [hall] at hu2
        obtain ⟨oa, oc, hou, -, -⟩ := hu2.shape
        subst hou
        have hfl : FitL rows := ⟨fun r hr => (HFIT.out.2 r hr).2, fun r hr => by have := (HFIT.out.2 r hr).1; omega⟩
        have HSORT := Lib.hid (pSort15_any _ _ rows ks w2 hu2 (HK.out w2 HO2.out) hfl (by omega))
        clear hu2 hfl hall hrs
        go_wp2_with fail
        refine HSORT.out.mono ?_
        rintro e w3 ⟨⟨o, rfl, hcp⟩, hx3⟩
        have HCP := Lib.hid hcp
        have HX3 := Lib.hid hx3
        have hs2 := HS2.out
        obtain ⟨pk2, hpk2⟩ := hs2.pur
        have HS3 := Lib.hid (hs2.same (held' := held2) (hs2.sto.mono hx3) (fun x hx => .inl hx) ⟨pk2, hpk2.ext hx3⟩ (OnlyS.of_ext (X := fun _ => False) hx3) (fun _ h => h.elim) (hs2.mem.blk.ext hx3) hs2.h0)
        have HO3 := Lib.hid (HO2.out.chain (OnlyS.of_ext (X := fun x => O2 x ∨ x = q ∨ w.heap.size ≤ x) hx3) HON2.out)
        have HRD := Lib.hid (show ∀ W Z, OnlyS Z w3 W → (∀ x, Z x → O2 x ∨ x < w.heap.size ∨ WkO w.heap.size (.slice ra 0 rc) rs2 x ∨ w3.heap.size ≤ x) → RdRV W o (sortS ks rows) from fun W Z hW hZ => by
          have h1 : RdX (fun k => k < w2.heap.size) w3 o (sortS ks rows) := hcp.off fun k hk => hk
          have h2 : RdX (fun k => k < w2.heap.size ∨ w3.heap.size ≤ k) w3 o (sortS ks rows) := h1.turn fun k hk => hk
          refine (h2.onlyS hW fun k hk => ?_).rv
          rcases hZ k hk with h3 | h3 | h3 | h3
          · exact .inl (hs2.sto.lt k h3)
          · exact .inl (by omega)
          · exact .inl (hs2.mem.lt h3).2
          · exact .inr h3)
        clear hcp hx3 hs2 hpk2 c4 HSORT
        go_wp2_with fail
        refine leaves_cons (f := 39) (args := #[.pointer (some ⟨w.heap.size, 0, none⟩)]) (by simp) (by simp [go_sem]) ?_
        refine (pOver18_any HS3.out hb0 .returning).mono ?_
        rintro e u' w' ⟨rfl, hov⟩
        have he := hov.1
        subst he
        obtain ⟨out9, E9, O9, pu9, he, hrest⟩ := Sorted18.yes (Y := Y) HFF.out hov HQ.out HO.out HO3.out HON2.out HD2.out HR0.out HRD.out
        cases he
        exact ⟨_, results_tmp2 rfl _ _ _, _, _, O9, pu9, rfl, hrest⟩
      · have e1 : ((N : Int) == 0) = false := beq_eq_false_iff_ne.2 (by omega)
        have e2 : (N == 0) = false := beq_eq_false_iff_ne.2 (by omega)
        have hn0 : 0 < rows.length := by omega
        have hfr := HFL.out hn0
        have hsub : ∀ x ∈ rows.drop fst, x ∈ rows := fun x hx => List.mem_of_mem_drop hx
        have HLAY := Lib.hid (pLay18_any w.heap.size p q w.heap.size ks _ s pu.most pu.now O2 w2 s2 held2 _ out rs2 (rows.drop fst) HS2.out (HOUT.out w2 HO2b.out) (HK.out w2 HO2.out) (HFIT.out.sub (by rw [List.length_drop]; omega) hsub) (fun x hx => HMAY.out x (hsub x hx)) (by rw [HN.out]; omega) hb0)
        have hcnt : (runsR rows (pu.most - pu.now)).1 = N + 1 := by
          have := HR1.out
          rw [HN.out, if_neg (by omega)] at this
          exact this
        have HCNT := Lib.hid hcnt
        have hshape := (HOUT.out w2 HO2b.out).shape
        generalize (rows.drop fst).length = M at hshape
        obtain ⟨oa, oc, hou, -, -⟩ := hshape
        subst hou
        clear hcnt hsub
        go_wp2_with fail
        refine HLAY.out.mono ?_
        rintro e w3 ⟨E, O3, s3, held3, R3, rs3, rfl, hS3, ho3, hO3, hE⟩
        have HS3 := Lib.hid hS3
        have HO3 := Lib.hid (HO2.out.chain ho3 HON2.out)
        have HON3 := Lib.hid (show ∀ x, O3 x → O x ∨ w.heap.size ≤ x from fun x hx => by
          rcases hO3 x hx with h3 | h3
          · exact HON2.out x h3
          · exact .inr (by omega))
        have HD3 := Lib.hid (show ∀ x, WkO w.heap.size R3 rs3 x → w.heap.size ≤ x from fun x hx => (hS3.mem.lt hx).1)
        have hsz3 := HO3.out.size
        clear hS3 ho3 hO3 HLAY c4
        rcases hE with ⟨rfl, rfl, r', rfl, hry⟩ | ⟨rfl, rfl, rfl, hno⟩
        · have hflat3 : (rs2 ++ [r']).flatMap Run.y = rows := by
            rw [List.flatMap_append, HFLAT.out, List.flatMap_cons, List.flatMap_nil, List.append_nil, hry, List.take_append_drop]
          have hl3 : (rs2 ++ [r']).length = N + 1 := by rw [List.length_append, HN.out]; rfl
          have HMGD := Lib.hid (pMerged18_any w.heap.size p q w.heap.size ks _ s pu.most pu.now O3 w3 s3 R3 (rs2 ++ [r']) F hF2 hF16 HS3.out (by rw [hflat3]; exact HFIT.out) (fun W hW => HK.out W (HO3.out.chain hW HON3.out)) hk (by rw [hl3]; omega))
          have HF3 := Lib.hid hflat3
          have HL3 := Lib.hid hl3
          clear hflat3 hl3 hry
          go_wp2_with fail
          refine HMGD.out.mono ?_
          rintro e w4 ⟨out4, E, O4, s4, held4, R4, rs4, rfl, hS4, ho4, hO4, hE⟩
          have HS4 := Lib.hid hS4
          have HO4 := Lib.hid (HO3.out.chain ho4 HON3.out)
          have HON4 := Lib.hid (show ∀ x, O4 x → O x ∨ w.heap.size ≤ x from fun x hx => by
            rcases hO4 x hx with h3 | h3
            · exact HON3.out x h3
            · exact .inr (by omega))
          have HD4 := Lib.hid (show ∀ x, WkO w.heap.size R4 rs4 x → w.heap.size ≤ x from fun x hx => (hS4.mem.lt hx).1)
          clear hS4 ho4 hO4 HMGD
          rcases hE with ⟨rfl, X, hX, hrd⟩ | ⟨rfl, rfl, hmem⟩ | ⟨rfl, rfl, hno⟩
          · have HRD := Lib.hid (show ∀ W Z, OnlyS Z w4 W → (∀ x, Z x → O4 x ∨ x < w.heap.size ∨ WkO w.heap.size R4 rs4 x ∨ w4.heap.size ≤ x) → RdRV W out4 (sortS ks rows) from fun W Z hW hZ => by
              rw [← HF3.out]
              refine hrd W Z hW fun x hx hxX => ?_
              have h1 := hX x hxX
              rcases hZ x hx with h3 | h3 | h3 | h3
              · exact h1.2.2.1 h3
              · omega
              · exact h1.2.2.2 h3
              · omega)
            clear hX hrd
            go_wp2_with fail
            refine leaves_cons (f := 39) (args := #[.pointer (some ⟨w.heap.size, 0, none⟩)]) (by simp) (by simp [go_sem]) ?_
            refine (pOver18_any HS4.out hb0 .returning).mono ?_
            rintro e u' w' ⟨rfl, hov⟩
            have he := hov.1
            subst he
            obtain ⟨out9, E9, O9, pu9, he, hrest⟩ := Sorted18.yes (Y := Y) HFF.out hov HQ.out HO.out HO4.out HON4.out HD4.out HR0.out HRD.out
            cases he
            exact ⟨_, results_tmp2 rfl _ _ _, _, _, O9, pu9, rfl, hrest⟩
          · have HE := Lib.hid (show ((∃ x ∈ rows, pu.most - pu.now < rowCost x) ∨ TooMuch (pu.most - pu.now) ((F : Int)).toNat rows) ∧ ((runsR rows (pu.most - pu.now)).2 = 0 → 2 ≤ (runsR rows (pu.most - pu.now)).1) from ⟨.inr (by rw [HF3.out] at hmem; exact hmem), fun _ => by have := HCNT.out; omega⟩)
            clear hmem
            go_wp2_with fail
            refine leaves_cons (f := 39) (args := #[.pointer (some ⟨w.heap.size, 0, none⟩)]) (by simp) (by simp [go_sem]) ?_
            refine (pOver18_any HS4.out hb0 .returning).mono ?_
            rintro e u' w' ⟨rfl, hov⟩
            have he := hov.1
            subst he
            obtain ⟨out9, E9, O9, pu9, he, hrest⟩ := Sorted18.no (Y := Y) HFF.out hov HQ.out HO.out HO4.out HON4.out HD4.out (.inl ⟨rfl, HE.out⟩)
            cases he
            exact ⟨_, results_tmp2 rfl _ _ _, _, _, O9, pu9, rfl, hrest⟩
          · have HE := Lib.hid (show ∃ n, NoRoom s rows n ∧ n ≤ rows.length ∧ ((runsR rows (pu.most - pu.now)).2 = 0 → n ≤ (runsR rows (pu.most - pu.now)).1 ∧ 2 ≤ (runsR rows (pu.most - pu.now)).1) from ⟨(rs2 ++ [r']).length, by rw [HF3.out] at hno; exact hno, by have := HL3.out; omega, fun _ => by have := HCNT.out; have := HL3.out; omega⟩)
            clear hno
            go_wp2_with fail
            refine leaves_cons (f := 39) (args := #[.pointer (some ⟨w.heap.size, 0, none⟩)]) (by simp) (by simp [go_sem]) ?_
            refine (pOver18_any HS4.out hb0 .returning).mono ?_
            rintro e u' w' ⟨rfl, hov⟩
            have he := hov.1
            subst he
            obtain ⟨out9, E9, O9, pu9, he, hrest⟩ := Sorted18.no (Y := Y) HFF.out hov HQ.out HO.out HO4.out HON4.out HD4.out (.inr ⟨rfl, HE.out⟩)
            cases he
            exact ⟨_, results_tmp2 rfl _ _ _, _, _, O9, pu9, rfl, hrest⟩
        · have HE := Lib.hid (show ∃ n, NoRoom s rows n ∧ n ≤ rows.length ∧ ((runsR rows (pu.most - pu.now)).2 = 0 → n ≤ (runsR rows (pu.most - pu.now)).1 ∧ 2 ≤ (runsR rows (pu.most - pu.now)).1) from ⟨rs3.length + 1, HS2.out.dsk.noRoom (y := rows.drop fst) (rest := []) (by rw [HFLAT.out, List.append_nil, List.take_append_drop]) hno, by have := HN.out; omega, fun _ => by have := HCNT.out; have := HN.out; omega⟩)
          clear hno
          go_wp2_with fail
          refine leaves_cons (f := 39) (args := #[.pointer (some ⟨w.heap.size, 0, none⟩)]) (by simp) (by simp [go_sem]) ?_
          refine (pOver18_any HS3.out hb0 .returning).mono ?_
          rintro e u' w' ⟨rfl, hov⟩
          have he := hov.1
          subst he
          obtain ⟨out9, E9, O9, pu9, he, hrest⟩ := Sorted18.no (Y := Y) HFF.out hov HQ.out HO.out HO3.out HON3.out HD3.out (.inr ⟨rfl, HE.out⟩)
          cases he
          exact ⟨_, results_tmp2 rfl _ _ _, _, _, O9, pu9, rfl, hrest⟩
    · have HE := Lib.hid (show ((∃ x ∈ rows, pu.most - pu.now < rowCost x) ∨ TooMuch (pu.most - pu.now) ((F : Int)).toNat rows) ∧ ((runsR rows (pu.most - pu.now)).2 = 0 → 2 ≤ (runsR rows (pu.most - pu.now)).1) from ⟨.inl hx, fun h => absurd h hr⟩)
      clear hr hx hS2
      go_wp2_with fail
      refine leaves_cons (f := 39) (args := #[.pointer (some ⟨w.heap.size, 0, none⟩)]) (by simp) (by simp [go_sem]) ?_
      refine (pOver18_any HS2.out hb0 .returning).mono ?_
      rintro e u' w' ⟨rfl, hov⟩
      have he := hov.1
      subst he
      obtain ⟨out, E, O', pu', he, hrest⟩ := Sorted18.no (Y := Y) HFF.out hov HQ.out HO.out HO2.out HON2.out HD2.out (.inl ⟨rfl, HE.out⟩)
      cases he
      exact ⟨_, results_tmp2 rfl _ _ _, _, _, O', pu', rfl, hrest⟩
    · have HE := Lib.hid (show ∃ n, NoRoom s rows n ∧ n ≤ rows.length ∧ ((runsR rows (pu.most - pu.now)).2 = 0 → n ≤ (runsR rows (pu.most - pu.now)).1 ∧ 2 ≤ (runsR rows (pu.most - pu.now)).1) from ⟨n, hno, hn1, hn2⟩)
      clear hno hn1 hn2 hS2
      go_wp2_with fail
      refine leaves_cons (f := 39) (args := #[.pointer (some ⟨w.heap.size, 0, none⟩)]) (by simp) (by simp [go_sem]) ?_
      refine (pOver18_any HS2.out hb0 .returning).mono ?_
      rintro e u' w' ⟨rfl, hov⟩
      have he := hov.1
      subst he
      obtain ⟨out, E, O', pu', he, hrest⟩ := Sorted18.no (Y := Y) HFF.out hov HQ.out HO.out HO2.out HON2.out HD2.out (.inr ⟨rfl, HE.out⟩)
      cases he
      exact ⟨_, results_tmp2 rfl _ _ _, _, _, O', pu', rfl, hrest⟩
end Go.Proofs.YtaoegcakefodaaaGreat

namespace Go.Proofs.YtaoegcakefodaaaGreat
open Go.RowKit Go.BigFrame
theorem FitR.le {m m' : Nat} {r : List V} (h : FitR m r) (hm : m ≤ m') : FitR m' r := fun v hv => ⟨(h v hv).1, Nat.le_trans (h v hv).2 hm⟩
theorem FitRs.le {m m' : Nat} {rs : List (List V)} (h : FitRs m rs) (hm : m ≤ m') : FitRs m' rs := fun r hr => (h r hr).le hm
end Go.Proofs.YtaoegcakefodaaaGreat

namespace Go.Proofs.YtaoegcakefodaaaGreat
open Go.RowKit Go.BigFrame
theorem num18_any (n : Int) (w : World) :
    Calls Tryz.prog 34 #[.int .i64 n] w fun e w' => (∃ v, e = .returned v ∧ w'.ownsRow w.heap.size 56 3 v 1 ((numV n).flatMap V.cells)) ∧ Ext w w' := by
  have HO := Lib.hid (lit_own w (numV n) (by simp [numV, maxLen]))
  have HX := Lib.hid (ext_new w (.cells #[.int .u8 2, .int .i64 n, .string ⟨#[]⟩] 56))
  go_enter Tryz.func34, Tryz.ntmps34
  go_wp2_with fail
  go_ret
  exact ⟨⟨_, rfl, HO.out⟩, HX.out⟩
theorem ownsOver {X : Nat → Prop} {base : Nat} {e : TypeId} {size : Nat} {w w' : World} {v : Value} {n : Nat} {xs : List Value} (h : w.ownsRow base e size v n xs) (ho : OnlyS X w w') (hx : ∀ b, X b → b < base) : w'.ownsRow base e size v n xs := by
  refine ⟨h.1, ?_⟩
  rcases h.2 with ⟨rfl, h2⟩ | ⟨g, cap, cur, rfl, h2, h3, h4, h5, h6, h7⟩
  · exact .inl ⟨rfl, h2⟩
  · exact .inr ⟨g, cap, cur, rfl, h2, (ho.block g (Array.getElem?_eq_some_iff.1 h3).1 (fun h => by have := hx g h; omega)).trans h3, h4, h5, h6, h7⟩
theorem OwnRows.over {X : Nat → Prop} {base : Nat} {w w' : World} {hs : List Value} {rs : List (List V)} (h : OwnRows base w hs rs) (ho : OnlyS X w w') (hx : ∀ b, X b → b < base) : OwnRows base w' hs rs := ⟨h.1, fun i h1 h2 => ownsOver (h.2 i h1 h2) ho hx⟩
theorem AnsRR.over {X : Nat → Prop} {base : Nat} {w w' : World} {u : Value} {rs : List (List V)} (h : AnsRR base w u rs) (ho : OnlyS X w w') (hx : ∀ b, X b → b < base) : AnsRR base w' u rs := by
  obtain ⟨hs, h1, h2⟩ := h
  exact ⟨hs, ownsOver h1 ho hx, h2.over ho hx⟩
theorem AnsRR.rv {base : Nat} {w : World} {u : Value} {rs : List (List V)} (h : AnsRR base w u rs) : RdRV w u rs := by
  obtain ⟨hs, h1, h2⟩ := h
  exact ⟨hs, RdV.of_owns h1, h2.rd⟩
theorem lit_ansRR (base : Nat) (w : World) (hs : List Value) (rs : List (List V)) (h : OwnRows base w hs rs) (hb : base ≤ w.heap.size) (hl : hs.length ≤ maxLen) : AnsRR base (w.alloc (.cells hs.toArray 58)) (.slice (some ⟨w.heap.size, 0, none⟩) hs.length hs.length) rs := by
  have h1 := World.ownsRow_lit (base := base) (e := 58) (size := 1) w hs.toArray hs.length hb hl (by simp)
  exact ⟨hs, by simpa using h1, h.ext (ext_new w _)⟩
theorem RdKs.over {Y : Nat → Prop} {w w' : World} {g off n cap : Nat} {l : List Ky} (h : RdKs w (.slice (some ⟨g, off, none⟩) n cap) l) (ho : OnlyS Y w w') (hx : ¬ Y g) : RdKs w' (.slice (some ⟨g, off, none⟩) n cap) l := by
  obtain ⟨ao, c, h1, h2, h3, h4, h5⟩ := h
  simp only [Value.slice.injEq] at h1
  obtain ⟨rfl, rfl, rfl⟩ := h1
  refine ⟨_, _, rfl, h2, h3, fun j hj => ?_, fun h => h5 h⟩
  obtain ⟨g', off', h6, h7, h8⟩ := h4 j hj
  simp only [Option.some.injEq, Addr.mk.injEq] at h6
  obtain ⟨rfl, rfl, -⟩ := h6
  exact ⟨_, _, rfl, ho.cell h7 hx, ho.cell h8 hx⟩
end Go.Proofs.YtaoegcakefodaaaGreat

namespace Go.Proofs.YtaoegcakefodaaaGreat
open Go.RowKit Go.BigFrame
def keys18 : List Ky := [⟨0, false⟩]
def rows18 : List (List V) := [numV 3, numV 1, numV 2]
theorem sort18 : sortS keys18 rows18 = [numV 1, numV 2, numV 3] := by
  have hp := cmpR_pre keys18
  have h1 : OrdPure.IsSort (cmpR keys18) [numV 3] [numV 3] := OrdPure.IsSort.self (List.pairwise_singleton ..)
  have h2 := h1.snoc hp (x := numV 1) (k := 0) ⟨by decide, by decide, fun j _ h => by omega⟩
  have h3 := h2.snoc hp (x := numV 2) (k := 1) ⟨by decide, by decide, fun j hj h => by
    obtain rfl : j = 0 := by omega
    show cmpR keys18 (numV 1) (numV 2) ≤ 0
    decide⟩
  exact (sortS_eq h3).symm
theorem fit18 : ∀ r ∈ rows18, mayR r = 0 ∧ FitR 5000 r := by
  intro r hr
  simp only [rows18, List.mem_cons, List.not_mem_nil, or_false] at hr
  rcases hr with rfl | rfl | rfl <;> exact ⟨by rfl, fun v hv => by simp only [numV, List.mem_singleton] at hv; subst hv; exact ⟨⟨by decide, by decide, by decide, by decide⟩, by simp⟩⟩
theorem cost18 : ∀ r ∈ rows18, rowCost r ≤ 1000000000 := by
  intro r hr
  simp only [rows18, List.mem_cons, List.not_mem_nil, or_false] at hr
  rcases hr with rfl | rfl | rfl <;> decide
theorem runs18a : runsR rows18 32 = (2, 0) := by rfl
theorem runs18b : runsR rows18 15 = (0, 5) := by rfl
theorem room18a : RoomM18 32 rows18 2 := by unfold RoomM18; decide
theorem room18b : RoomD18 (List.replicate 9 none) 32 rows18 := ⟨fun _ => by rw [runs18a]; decide, fun h => absurd (by rw [runs18a]) h⟩
theorem room18c (s : St) (h : (5 : Int) ≤ (s.length : Int) - usedS s) : RoomD18 s 15 rows18 := ⟨fun h => by rw [runs18b] at h; exact absurd h (by decide), fun _ => by
  have e : 2 * needS ((rowsB rows18).length : Int) + (rows18.length : Int) = 5 := by decide
  omega⟩
theorem three18 {B : Nat} {w0 w1 w2 : World} {x y z : Int} {a b c : Value} (ha : w0.ownsRow B 56 3 a 1 ((numV x).flatMap V.cells)) (hb : w1.ownsRow B 56 3 b 1 ((numV y).flatMap V.cells)) (hc : w2.ownsRow B 56 3 c 1 ((numV z).flatMap V.cells)) (h1 : Ext w0 w2) (h2 : Ext w1 w2) (hB : B ≤ w2.heap.size) :
    AnsRR B (w2.alloc (.cells #[a, b, c] 58)) (.slice (some ⟨w2.heap.size, 0, none⟩) 3 3) [numV x, numV y, numV z] :=
  lit_ansRR B w2 [a, b, c] _ (((OwnRows.one (r := numV x) ha).ext h1).append (((OwnRows.one (r := numV y) hb).ext h2).append (OwnRows.one (r := numV z) hc))) hB (by simp [maxLen])
set_option maxRecDepth 100000 in
set_option maxHeartbeats 4000000 in
theorem shown18_any (w : World) : Calls Tryz.prog 9 #[] w fun e w' => e = .returned (.bool true) ∧ Ext w w' := by
  go_enter Tryz.func9, Tryz.ntmps9
  go_wp2_with fail
  refine (pNew_any 9 (by decide)).mono ?_
  rintro e w1 hN
  unfold PNewed at hN
  rcases hN with ⟨_, _, p, O1, rfl, hp1, ho1, hx1⟩ | ⟨h, _⟩
  rotate_left
  · exact absurd (by decide) h
  have HP1 := Lib.hid (show PSto O1 w1 p (List.replicate 9 none) from hp1)
  have HO1 := Lib.hid ho1
  have HX1 := Lib.hid hx1
  clear hp1 ho1 hx1
  go_wp2_with fail
  refine (purNew_any 32 w1 (by decide)).mono ?_
  rintro e w2 hN
  unfold PurNewed at hN
  rcases hN with ⟨_, _, a, rfl, hq2, ha2, hx2⟩ | ⟨h, _⟩
  rotate_left
  · exact absurd (by decide) h
  have HQ2 := Lib.hid hq2
  have HX2 := Lib.hid hx2
  have HA2 := Lib.hid ha2
  clear hq2 hx2 ha2
  go_wp2_with fail
  refine (purNew_any 15 w2 (by decide)).mono ?_
  rintro e w3 hN
  unfold PurNewed at hN
  rcases hN with ⟨_, _, b, rfl, hq3, ha3, hx3⟩ | ⟨h, _⟩
  rotate_left
  · exact absurd (by decide) h
  have HQ3 := Lib.hid hq3
  have HX3 := Lib.hid hx3
  have HA3 := Lib.hid ha3
  clear hq3 hx3 ha3
  go_wp2_with fail
  refine (num18_any 3 w3).mono ?_
  rintro e r1 ⟨⟨v1, rfl, k1⟩, y1⟩
  obtain ⟨g1, c1, rfl⟩ := owns3_shape k1
  have K1 := Lib.hid k1
  have Y1 := Lib.hid y1
  clear k1 y1
  go_wp2_with fail
  refine (num18_any 1 r1).mono ?_
  rintro e r2 ⟨⟨v2, rfl, k2⟩, y2⟩
  obtain ⟨g2, c2, rfl⟩ := owns3_shape k2
  have K2 := Lib.hid (Joins.ownsRow_le k2 Y1.out.size)
  have Y2 := Lib.hid y2
  clear k2 y2
  go_wp2_with fail
  refine (num18_any 2 r2).mono ?_
  rintro e r3 ⟨⟨v3, rfl, k3⟩, y3⟩
  obtain ⟨g3, c3, rfl⟩ := owns3_shape k3
  have Y3 := Lib.hid y3
  have HRR := Lib.hid (show AnsRR w3.heap.size (r3.alloc (.cells #[.slice g1 1 c1, .slice g2 1 c2, .slice g3 1 c3] 58)) (.slice (some ⟨r3.heap.size, 0, none⟩) 3 3) rows18 from three18 K1.out K2.out (Joins.ownsRow_le k3 (Nat.le_trans Y1.out.size Y2.out.size)) (Ext.trans Y2.out y3) y3 (Nat.le_trans (Nat.le_trans Y1.out.size Y2.out.size) y3.size))
  have HX4 := Lib.hid (show Ext w3 (r3.alloc (.cells #[.slice g1 1 c1, .slice g2 1 c2, .slice g3 1 c3] 58)) from Ext.trans Y1.out (Ext.trans (Ext.trans Y2.out y3) (ext_new _ _)))
  have HS4 := Lib.hid (show (r3.alloc (.cells #[.slice g1 1 c1, .slice g2 1 c2, .slice g3 1 c3] 58)).heap.size = r3.heap.size + 1 from by simp only [World.alloc, Array.size_push])
  clear k3 y3 K1 K2 Y1 Y2 Y3
  go_wp2_with fail
  generalize r3.alloc (.cells #[.slice g1 1 c1, .slice g2 1 c2, .slice g3 1 c3] 58) = W4 at HRR HX4 HS4 ⊢
  generalize r3.heap.size = gr at HRR HS4 ⊢
  have HX3' := Lib.hid (fun i (hi : O1 i ∨ i = a ∨ i = b) => show i < w3.heap.size from by
    have s1 := HX2.out.size
    have s2 := HX3.out.size
    rcases hi with h | h | h
    · have := HP1.out.lt i h
      omega
    · have := HQ2.out.lt
      omega
    · have := HQ3.out.lt
      omega)
  have HNO := Lib.hid (show ∀ W, OnlyS (fun i => O1 i ∨ i = a ∨ i = b) W4 W → RdRV W (.slice (some ⟨gr, 0, none⟩) 3 3) rows18 from fun W hW => (HRR.out.over hW HX3'.out).rv)
  have HKEY := Lib.hid (fun (w : World) => show RdKs (w.alloc (.cells #[.int .i64 0, .bool false] 60)) (.slice (some ⟨w.heap.size, 0, none⟩) 1 1) keys18 from RdKs.lit w keys18 60 (by simp [maxLen, keys18]))
  have HXK := Lib.hid (ext_new W4 (.cells #[.int .i64 0, .bool false] 60))
  have HK5 := Lib.hid (show RdKs (W4.alloc (.cells #[.int .i64 0, .bool false] 60)) (.slice (some ⟨gr + 1, 0, none⟩) 1 1) keys18 from HS4.out ▸ HKEY.out W4)
  have HS5 := Lib.hid (show W4.heap.size < (W4.alloc (.cells #[.int .i64 0, .bool false] 60)).heap.size from by simp only [World.alloc, Array.size_push]; omega)
  generalize W4.alloc (.cells #[.int .i64 0, .bool false] 60) = W5 at HXK HK5 HS5 ⊢
  have HX45 := Lib.hid (Ext.trans HX4.out HXK.out)
  refine (pSort18_any (fun i => O1 i ∨ i = a ∨ i = b) O1 p a (List.replicate 9 none) ⟨32, 0, 0⟩ _ _ rows18 keys18 2 W5 (HP1.out.mono (Ext.trans (Ext.trans HX2.out HX3.out) HX45.out)) ⟨by decide, fun p hp => by simp at hp⟩ (HQ2.out.ext (Ext.trans HX3.out HX45.out)) (fun h => by have := HP1.out.lt a h; have := HA2.out; omega) (fun i h => h.elim .inl (fun h => .inr (.inl h))) (fun W hW => HNO.out W ((OnlyS.of_ext HXK.out).trans hW (fun i _ h => h))) (fun W hW => HK5.out.over hW (fun h => by have := HX3'.out _ h; have := HX4.out.size; have := HS4.out; omega)) (by decide) (by decide) fit18 (by decide)).mono ?_
  rintro e w6 ⟨out, E, O', pu', rfl, hp6, hq6, hm6, hn6, ho6, hO6, hq6', -, h2, h3, -⟩
  have h2' := h2 (by decide) (by decide)
  have hE : E = 0 := by
    have e1 := h2'.2.2.2.1 room18a
    have e2 := h2'.2.2.2.2 room18b
    omega
  subst hE
  have HP6 := Lib.hid hp6
  have HOUT := Lib.hid (h3 rfl)
  have HO6 := Lib.hid ho6
  have HN6 := Lib.hid hO6
  have HC6 := Lib.hid (show OnlyS (fun i => O1 i ∨ i = a ∨ i = b) W4 w6 from (OnlyS.of_ext HXK.out).trans ho6 (fun i _ h => h.elim .inl (fun h => .inr (.inl h))))
  have HB5 := Lib.hid (show b < W5.heap.size from Nat.lt_of_lt_of_le (HX3'.out b (.inr (.inr rfl))) HX45.out.size)
  have HQ6 := Lib.hid (show PurS w6 b ⟨15, 0, 0⟩ from (HQ3.out.ext HX45.out).onlyS ho6 (fun h => by
    have s1 := HX2.out.size
    have := HA3.out
    rcases h with h | h
    · have := HP1.out.lt b h
      omega
    · have := HQ2.out.lt
      omega))
  have HNB := Lib.hid (show ¬ O' b from fun h => by
    have s1 := HX2.out.size
    have := HA3.out
    rcases hO6 b h with h | h
    · have := HP1.out.lt b h
      omega
    · have := HB5.out
      omega)
  have HXK6 := Lib.hid (ext_new w6 (.cells #[.int .i64 0, .bool false] 60))
  have HK7 := Lib.hid (HKEY.out w6)
  clear h2 h2' h3 hp6 hq6 hm6 hn6 ho6 hO6 hq6'
  go_wp2_with fail
  generalize w6.alloc (.cells #[.int .i64 0, .bool false] 60) = W7 at HXK6 HK7 ⊢
  have HC7 := Lib.hid (show OnlyS (fun i => O1 i ∨ i = a ∨ i = b) W4 W7 from HC6.out.trans (OnlyS.of_ext (X := fun _ => False) HXK6.out) (fun _ _ h => h.elim))
  have HSTEP := Lib.hid (show ∀ i, i < W5.heap.size → O' i ∨ i = b → O1 i ∨ i = a ∨ i = b from fun i hi h => by
    rcases h with h | h
    · rcases HN6.out i h with h | h
      · exact .inl h
      · omega
    · exact .inr (.inr h))
  refine (pSort18_any (fun i => O' i ∨ i = b) O' p b (List.replicate 9 none) ⟨15, 0, 0⟩ _ _ rows18 keys18 2 W7 (HP6.out.mono HXK6.out) ⟨by decide, fun p hp => by simp at hp⟩ (HQ6.out.ext HXK6.out) HNB.out (fun i h => h) (fun W hW => HNO.out W (HC7.out.trans hW (fun i hi h => HSTEP.out i (Nat.lt_trans hi HS5.out) h))) (fun W hW => HK7.out.over hW (fun h => by
    rcases h with h | h
    · have := HP6.out.lt _ h
      omega
    · have := HB5.out
      have := HO6.out.size
      omega)) (by decide) (by decide) fit18 (by decide)).mono ?_
  rintro e w8 ⟨out2, F, O'', pu'', rfl, hp8, hq8, hm8, hn8, ho8, hO8, hq8', -, h2, -, -⟩
  have h2' := h2 (by decide) (by decide)
  have hF : F = 5 := by
    have e0 := h2'.2.1 (by rw [show (⟨15, 0, 0⟩ : Pu).most - (⟨15, 0, 0⟩ : Pu).now = 15 from rfl, runs18b]; decide)
    have e2 := h2'.2.2.2.2 (room18c _ (by decide))
    omega
  subst hF
  have HR8 := Lib.hid ((HNO.out w8 (HC7.out.trans ho8 (fun i hi h => HSTEP.out i (Nat.lt_trans hi HS5.out) h))).rd)
  have HO8 := Lib.hid (HOUT.out w8 ((OnlyS.of_ext HXK6.out).trans ho8 (fun i _ h => h.elim .inr (fun h => .inl ⟨.inr (.inr h), by rw [h]; exact HB5.out⟩)))).rd
  rw [sort18] at HO8
  have HEXT := Lib.hid (show Ext w w8 from by
    have s1 := HX1.out.size
    have s2 := HX2.out.size
    have s3 := HX3.out.size
    have s4 := HX45.out.size
    have s6 := HO6.out.size
    have t1 : Below w.heap.size w W5 := Ext.trans HX1.out (Ext.trans (Ext.trans HX2.out HX3.out) HX45.out)
    have t2 : Below w.heap.size W5 w6 := HO6.out.below (by omega) (fun i h => by
      rcases h with h | h
      · exact HO1.out i h
      · have := HA2.out
        omega)
    have t3 : Below w.heap.size w6 W7 := (OnlyS.of_ext (X := fun _ => False) HXK6.out).below (by omega) (fun _ h => h.elim)
    have t4 : Below w.heap.size W7 w8 := ho8.below (by have := HXK6.out.size; omega) (fun i h => by
      rcases h with h | h
      · rcases HN6.out i h with h | h
        · exact HO1.out i h
        · omega
      · have := HA3.out
        omega)
    exact ((t1.trans t2).trans t3).trans t4)
  clear h2 h2' hp8 hq8 hm8 hn8 ho8 hO8 hq8'
  go_wp2_with fail
  refine (pRuns18_any _ rows18 32 w8 HR8.out (by decide) cost18 (by decide)).mono ?_
  rw [runs18a]
  rintro e w9 ⟨rfl, x9⟩
  have HX9 := Lib.hid x9
  clear x9 HR8
  go_wp2_with fail
  refine (num18_any 1 w9).mono ?_
  rintro e r1 ⟨⟨v1, rfl, k1⟩, y1⟩
  obtain ⟨g1, c1, rfl⟩ := owns3_shape k1
  have K1 := Lib.hid k1
  have Y1 := Lib.hid y1
  clear k1 y1
  go_wp2_with fail
  refine (num18_any 2 r1).mono ?_
  rintro e r2 ⟨⟨v2, rfl, k2⟩, y2⟩
  obtain ⟨g2, c2, rfl⟩ := owns3_shape k2
  have K2 := Lib.hid (Joins.ownsRow_le k2 Y1.out.size)
  have Y2 := Lib.hid y2
  clear k2 y2
  go_wp2_with fail
  refine (num18_any 3 r2).mono ?_
  rintro e r3 ⟨⟨v3, rfl, k3⟩, y3⟩
  obtain ⟨g3, c3, rfl⟩ := owns3_shape k3
  have HRS := Lib.hid (three18 K1.out K2.out (Joins.ownsRow_le k3 (Nat.le_trans Y1.out.size Y2.out.size)) (Ext.trans Y2.out y3) y3 (Nat.le_trans (Nat.le_trans Y1.out.size Y2.out.size) y3.size)).rv
  have HX10 := Lib.hid (show Ext w9 (r3.alloc (.cells #[.slice g1 1 c1, .slice g2 1 c2, .slice g3 1 c3] 58)) from Ext.trans Y1.out (Ext.trans (Ext.trans Y2.out y3) (ext_new _ _)))
  clear k3 y3 K1 K2 Y1 Y2
  go_wp2_with fail
  generalize r3.alloc (.cells #[.slice g1 1 c1, .slice g2 1 c2, .slice g3 1 c3] 58) = W10 at HRS HX10 ⊢
  refine (refSameRows_any out _ [numV 1, numV 2, numV 3] [numV 1, numV 2, numV 3] W10 (HO8.out.mono (Ext.trans HX9.out HX10.out)) HRS.out.rd).mono ?_
  rw [decide_eq_true rfl]
  rintro e w11 ⟨rfl, x11⟩
  have HFIN := Lib.hid (Ext.trans HEXT.out (Ext.trans (Ext.trans HX9.out HX10.out) x11))
  clear x11
  go_wp2_with fail
  go_ret
  exact ⟨rfl, HFIN.out⟩
end Go.Proofs.YtaoegcakefodaaaGreat

