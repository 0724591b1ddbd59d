/-
  The contract of the document's own Put.
-/
import Derived.Test.YthjkfkajkbaegaaRunsAt
import Derived.Test.YthjkfkajkbaegaaRef
namespace Go.Proofs.Ythjkfkajkbaegaa
open Go.RowKit Go.BigFrame

theorem ofR_mem {l : List Int} {s : Sp} (h : s ∈ ofR l) : s.f ∈ l ∧ 1 ≤ s.t ∧ s.t ≤ l.length := by
  have hg := good_ofR l
  have h1 := hg s h
  refine ⟨?_, h1, ?_⟩
  · have hm : s.f ∈ flat (ofR l) := by
      unfold flat
      refine List.mem_flatMap.2 ⟨s, h, ?_⟩
      obtain ⟨q, hq⟩ : ∃ q, s.t.toNat = q + 1 := ⟨s.t.toNat - 1, by omega⟩
      rw [hq]
      simp
    rwa [flat_ofR] at hm
  · have hs := sumR_ofR l
    obtain ⟨a, b, e⟩ := List.append_of_mem h
    rw [e] at hs hg
    rw [sumR_append, sumR] at hs
    have h2 := sumR_nonneg (fun x hx => hg x (List.mem_append.2 (.inl hx)) : goodR a)
    have h3 := sumR_nonneg (fun x hx => hg x (List.mem_append.2 (.inr (List.mem_cons_of_mem _ hx))) : goodR b)
    omega
theorem encR_take {rs : List Sp} {k : Nat} (hk : k < rs.length) : encR (rs.take (k + 1)) = encR (rs.take k) ++ (enc (zig rs[k].f) ++ enc rs[k].t.toNat) := by
  rw [List.take_succ_eq_append_getElem hk]
  unfold encR
  rw [List.flatMap_append]
  simp
theorem encR_len (rs : List Sp) : (encR rs).length ≤ 18 * rs.length := by
  induction rs with
  | nil => exact Nat.le_refl _
  | cons s t ih =>
    unfold encR at *
    rw [List.flatMap_cons, List.length_append, List.length_append, List.length_cons]
    have := enc_length (zig s.f)
    have := enc_length s.t.toNat
    omega
theorem putR_len {l : List Int} (h : l.length ≤ 4096) : (putR l).length ≤ 73800 := by
  unfold putR
  rw [List.length_append]
  have h1 := enc_length (ofR l).length
  have h2 := encR_len (ofR l)
  have h3 := ofR_len l
  omega

set_option maxRecDepth 100000 in
set_option maxHeartbeats 2000000 in
theorem refPutR_any (u : Value) (l : List Int) (w : World) (hu : RdV w u (l.map (Value.int .i64))) (hl : ∀ x ∈ l, -9223372036854775808 ≤ x ∧ x ≤ 9223372036854775807) :
    Calls Try.prog 10 #[u] w fun e w' => AnsB w (putS9 l) e w' := by
  have HU := Lib.hid hu
  have HL := Lib.hid hl
  obtain ⟨ao, cap, rfl, -, -, -⟩ := RdV.cellsAt hu
  simp only [List.length_map] at *
  obtain ⟨-, h1, h2, -⟩ := RdV.plain hu
  obtain ⟨N, hN⟩ : ∃ N, l.length = N := ⟨_, rfl⟩
  have HN := Lib.hid hN
  unfold maxLen at h2
  rw [hN] at h1 HU ⊢
  clear hu hl hN
  by_cases hbig : 4096 < N
  · have HNO := Lib.hid (show putS9 l = ([], 3) by unfold putS9; rw [if_neg (by have := HN.out; omega)])
    go_enter Try.func10, Try.ntmps10
    go_wp2_with fail
    go_ret2
    exact ⟨_, by rw [HNO.out]; rfl, by rw [HNO.out]; exact owns_nil _ _ _ _, Ext.keeps.refl _⟩
  · have HYES := Lib.hid (show putS9 l = (putR l, 0) by unfold putS9; rw [if_pos (by have := HN.out; omega)])
    have HPR := Lib.hid (show putR l = enc (ofR l).length ++ encR (ofR l) from rfl)
    have HOL := Lib.hid (show (ofR l).length ≤ 4096 by have := ofR_len l; have := HN.out; omega)
    have HM := Lib.hid (fun s (h : s ∈ ofR l) => (show (-9223372036854775808 ≤ s.f ∧ s.f ≤ 9223372036854775807) ∧ 1 ≤ s.t ∧ s.t ≤ 4096 from by
      obtain ⟨a, b, c⟩ := ofR_mem h
      exact ⟨HL.out _ a, b, by have := HN.out; omega⟩))
    go_enter Try.func10, Try.ntmps10
    go_wp2_with fail
    refine (refOfR_any _ l w HU.out (by have := HN.out; omega)).mono ?_
    rintro e w1 ⟨⟨v1, rfl, ho1⟩, hx1⟩
    have HX1 := Lib.hid hx1
    obtain ⟨so, sc, rfl, hs1, hs2, hat, -⟩ := ho1.rd
    have HAT := Lib.hid hat
    generalize ofR l = rs at hs1 HAT HPR HOL HM ⊢
    obtain ⟨K, hK⟩ : ∃ K, rs.length = K := ⟨_, rfl⟩
    rw [hK] at hs1 HPR HOL ⊢
    have HK := Lib.hid hK
    have hol := HOL.out
    have HNUM := Lib.hid (fun W => refNum_any (.slice none 0 0) [] K W (Rd.nil W) (by decide) (by have := HOL.out; omega))
    unfold maxLen at hs2
    clear ho1 hx1 hat hK
    go_wp2_with fail
    refine (HNUM.out w1).mono ?_
    rintro e w2 ⟨v2, rfl, ho2, hx2⟩
    rw [List.nil_append] at ho2
    have HO2 := Lib.hid ho2
    have HX2 := Lib.hid (show Ext w1 w2 from hx2)
    clear ho2 hx2
    go_wp2_with fail
    go_loopw [5, 6] (fun v i wr => ∃ k : Nat, k ≤ K ∧ i = .int .i64 k ∧ wr.ownsRow w1.heap.size 5 1 v ((enc K ++ encR (rs.take k)).map bv).length ((enc K ++ encR (rs.take k)).map bv) ∧ Below w1.heap.size w1 wr) (fun _ i _ => K - (intOf i).toNat)
    case atStart => exact ⟨0, Nat.zero_le _, rfl, by rw [show enc K ++ encR (rs.take 0) = enc K from List.append_nil _]; exact HO2.out, HX2.out⟩
    case round =>
      obtain ⟨k, hk, rfl, hown, hx⟩ := hrel
      have HX := Lib.hid hx
      have HO := Lib.hid hown
      by_cases hlt : k < K
      · have hkl : k < rs.length := by have := HK.out; omega
        obtain ⟨g, off, rfl, hx0, hx1⟩ := HAT.out k hkl
        have HC0 := Lib.hid (fun W (h : Below w1.heap.size w1 W) => (h.cell (lt_of_cell hx0)).trans hx0)
        have HC1 := Lib.hid (fun W (h : Below w1.heap.size w1 W) => (h.cell (lt_of_cell hx1)).trans hx1)
        have HET := Lib.hid (encR_take hkl)
        have HLEN := Lib.hid (show (enc K ++ encR (rs.take k)).length ≤ 80000 by
          have h1 := enc_length K
          have h2 := encR_len (rs.take k)
          rw [List.length_take] at h2
          rw [List.length_append]
          omega)
        obtain ⟨⟨hf0, hf1⟩, ht0, ht1⟩ := HM.out rs[k] (List.getElem_mem hkl)
        generalize rs[k] = c at HC0 HC1 HET hf0 hf1 ht0 ht1
        obtain ⟨cf, ct⟩ := c
        simp only at HC0 HC1 HET hf0 hf1 ht0 ht1
        obtain ⟨T, rfl⟩ := Int.eq_ofNat_of_zero_le (show 0 ≤ ct by omega)
        have hc0 := HC0.out _ hx
        clear hown hx hx0 hx1 hkl
        go_wp2_with fail
        refine (refInt_any _ (enc K ++ encR (rs.take k)) cf wr (RdV.of_owns HO.out) (by have := HLEN.out; omega) hf0 hf1).mono ?_
        rintro e w3 ⟨v3, rfl, ho3, hx3⟩
        have HO3 := Lib.hid ho3
        have HX3 := Lib.hid (show Below w1.heap.size w1 w3 from HX.out.trans (hx3.mono HX.out.size))
        have hc1 := HC1.out _ HX3.out
        clear ho3 hx3 hc0
        go_wp2_with fail
        refine (refNum_any v3 (enc K ++ encR (rs.take k) ++ enc (zig cf)) T w3 (RdV.of_owns HO3.out) (by have := HLEN.out; rw [List.length_append]; have := enc_length (zig cf); omega) (by omega)).mono ?_
        rintro e w4 ⟨v4, rfl, ho4, hx4⟩
        have HO4 := Lib.hid ho4
        have HX4 := Lib.hid (show Below w1.heap.size w1 w4 from HX3.out.trans (hx4.mono HX3.out.size))
        clear ho4 hx4 hc1
        go_wp2_with fail
        go_roundw
        case rel =>
          refine ⟨k + 1, by omega, by go_num, ?_, HX4.out⟩
          have h := owns_base HO4.out HX3.out.size
          rw [HET.out]
          simp only [Int.toNat_natCast]
          rw [← List.append_assoc, ← List.append_assoc]
          exact h
        case measure => simp [intOf]; omega
      · have HALL := Lib.hid (show rs.take k = rs from List.take_of_length_le (by have := HK.out; omega))
        clear hown hx
        go_wp2_with fail
        go_ret2
        refine ⟨_, by rw [HYES.out]; rfl, ?_, Ext.trans HX1.out HX.out⟩
        rw [HYES.out, HPR.out]
        have h := owns_base HO.out HX1.out.size
        rw [HALL.out, List.length_map] at h
        exact h

end Go.Proofs.Ythjkfkajkbaegaa
