/-
  The law's own 'few', and 'does' of any act.
-/
import Derived.Test.YthelgjoobckbaaaPagesDoes
namespace Go.Proofs.Ythelgjoobckbaaa
open Go.RowKit Go.BigFrame

/-- An act that is small. -/
def Act5.small (a : Act5) : Prop := a.b.length ≤ 500 ∧ a.l.length ≤ 20

/-- few's answer: the first m acts. -/
def FewTo (w : World) (u : Value) (ls : List Act5) (e : Ending) (w' : World) : Prop :=
  ∃ m ao cap, u = .slice ao ls.length cap ∧ e = .returned (.slice ao m cap) ∧ m ≤ ls.length ∧ m ≤ 80 ∧ (∀ j, (hj : j < ls.length) → j < m → ls[j].small) ∧ w = w'

set_option maxRecDepth 100000 in
theorem few5_any (u : Value) (ls : List Act5) (w : World) (hu : RdActs w u ls) :
    Calls Try.prog 12 #[u] w (FewTo w u ls) := by
  obtain ⟨ao, cap, rfl, hc1, hc2, hat⟩ := hu
  obtain ⟨N, hN⟩ : ∃ N, ls.length = N := ⟨_, rfl⟩
  have HN := Lib.hid hN
  have HAT := Lib.hid hat
  unfold maxLen at hc2
  have fin : ∀ m, m ≤ N → m ≤ 80 → (∀ j, (hj : j < ls.length) → j < m → ls[j].small) → FewTo w (.slice ao N cap) ls (.returned (.slice ao m cap)) w := fun m h1 h2 h3 => ⟨m, ao, cap, by rw [hN], rfl, by rw [hN]; exact h1, h2, h3, rfl⟩
  have HFIN := Lib.hid fin
  rw [hN] at hc1 ⊢
  clear hN hat fin
  go_enter Try.func12, Try.ntmps12
  go_wp2_with fail
  go_loopw [3, 6] (fun _ i wr => ∃ j : Nat, j ≤ N ∧ j ≤ 80 ∧ i = .int .i64 j ∧ (∀ k, (hk : k < ls.length) → k < j → ls[k].small) ∧ w = wr) (fun _ i _ => N - (intOf i).toNat)
  case atStart => exact ⟨0, Nat.zero_le _, Nat.zero_le _, rfl, fun k _ h => by omega, rfl⟩
  case round =>
    obtain ⟨j, hj, hj80, rfl, hsm, rfl⟩ := hrel
    have HSM := Lib.hid hsm
    clear hsm
    by_cases hlt : j < N
    · have hjl : j < ls.length := by rw [HN.out]; exact hlt
      obtain ⟨gg, off, cs, rfl, ⟨vb, vl, rfl, hrb, hrl⟩, hcs⟩ := HAT.out j hjl
      have hc3 := hcs 3 _ rfl
      have hc4 := hcs 4 _ rfl
      obtain ⟨ab, cb, rfl, hb1, hb2⟩ := hrb.shape
      obtain ⟨al, cl, rfl, hl1, hl2, -⟩ := RdV.cellsAt hrl
      rw [List.length_map] at hc4 hl1
      unfold maxLen at hb2 hl2
      have HNX := Lib.hid (fun (h1 : ls[j].small) (k : Nat) (hk : k < ls.length) (hkj : k < j + 1) => (by
        rcases Nat.lt_or_ge k j with h | h
        · exact HSM.out k hk h
        · obtain rfl : k = j := by omega
          exact h1 : ls[k].small))
      have HSJ := Lib.hid (show ls[j].small ↔ ls[j].b.length ≤ 500 ∧ ls[j].l.length ≤ 20 from Iff.rfl)
      generalize ls[j].b.length = nb at hc3 hb1 HSJ
      generalize ls[j].l.length = nl at hc4 hl1 HSJ
      clear hcs hrb hrl
      by_cases h80 : j = 80
      · subst h80
        go_wp2_with fail
        go_ret
        exact HFIN.out 80 (by omega) (Nat.le_refl _) HSM.out
      · have h80' : j < 80 := by omega
        clear h80
        by_cases hb500 : nb ≤ 500
        · by_cases hl20 : nl ≤ 20
          · have HN2 := Lib.hid (HNX.out (HSJ.out.2 ⟨hb500, hl20⟩))
            go_wp2_with fail
            go_roundw
            case rel => exact ⟨j + 1, by omega, by omega, by go_num, HN2.out, trivial⟩
            case measure => simp [intOf]; omega
          · go_wp2_with fail
            go_ret
            exact HFIN.out j (by omega) (by omega) HSM.out
        · go_wp2_with fail
          go_ret
          exact HFIN.out j (by omega) (by omega) HSM.out
    · have hjN : j = N := by omega
      subst hjN
      go_wp2_with fail
      go_ret
      exact HFIN.out j (Nat.le_refl _) hj80 HSM.out

theorem block_lt {w : World} {v : Value} {xs : List Value} (hr : RdV w v xs) (hne : xs ≠ []) : ∀ k, v.ownBlock = some k → k < w.heap.size := fun k hk => by
  rcases hr with ⟨rfl, h⟩ | ⟨x, cap, rfl, h2, h3, h4⟩
  · exact absurd h hne
  · cases hk
    cases xs with
    | nil => exact absurd rfl hne
    | cons y t =>
      have := lt_of_cell (h4 0 y rfl)
      rwa [add_block] at this

/-- An act that came in with the call, on stores that the call has made. -/
theorem does_any (O : Nat → Prop) (p q g : Nat) (s : St) (cs : List Value) (a : Act5) (w0 w : World) (hB : Both O w p q g s) (ha : ActAt w0 cs a) (hf : a.fits) (hs : a.small) (hb : Below w0.heap.size w0 w) (hO : ∀ b, O b → w0.heap.size ≤ b) (hg : w0.heap.size ≤ g) :
    Calls Try.prog 13 #[.pointer (some ⟨p, 0, none⟩), .pointer (some ⟨q, 0, none⟩), .agg cs.toArray] w (DoesTo O w p q g (actS s a)) := by
  obtain ⟨vb, vl, rfl, hrb0, hrl0⟩ := ha
  have hob : a.b ≠ [] → ∀ k, vb.ownBlock = some k → ¬ O k ∧ k ≠ g := fun h k hk => by
    have := block_lt hrb0 (by rintro e; exact h (by simpa using e)) k hk
    exact ⟨fun h => by have := hO k h; omega, by omega⟩
  have hol : a.l ≠ [] → ∀ k, vl.ownBlock = some k → ¬ O k ∧ k ≠ g := fun h k hk => by
    have := block_lt hrl0 (by rintro e; exact h (by simpa using e)) k hk
    exact ⟨fun h => by have := hO k h; omega, by omega⟩
  have hrb : Rd w vb a.b := hrb0.mono hb
  have hrl : RdV w vl (a.l.map (Value.int .i64)) := hrl0.mono hb
  have hk := hf.k
  have h7 : a.k % 7 = 0 ∨ a.k % 7 = 1 ∨ a.k % 7 = 2 ∨ a.k % 7 = 3 ∨ a.k % 7 = 4 ∨ a.k % 7 = 5 ∨ a.k % 7 = 6 := by omega
  rcases h7 with h | h | h | h | h | h | h
  · exact does_0 O p q g s vb vl a w hB hrb hrl hf hs.1 hs.2 hob hol h
  · exact does_1 O p q g s vb vl a w hB hrb hrl hf hs.1 hs.2 hob hol h
  · exact does_2 O p q g s vb vl a w hB hrb hrl hf hs.1 hs.2 hob hol h
  · exact does_3 O p q g s vb vl a w hB hrb hrl hf hs.1 hs.2 hob hol h
  · exact does_4 O p q g s vb vl a w hB hrb hrl hf hs.1 hs.2 hob hol h
  · exact does_5 O p q g s vb vl a w hB hrb hrl hf hs.1 hs.2 hob hol h
  · exact does_6 O p q g s vb vl a w hB hrb hrl hf hs.1 hs.2 hob hol h

end Go.Proofs.Ythelgjoobckbaaa
