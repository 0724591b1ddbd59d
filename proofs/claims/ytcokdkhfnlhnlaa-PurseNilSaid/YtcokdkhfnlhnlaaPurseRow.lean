/-
  What a row of values counts for, and rows of them: the program's calls.
-/
import Derived.Test.YtcokdkhfnlhnlaaPurseSto
import Derived.Test.YtcokdkhfnlhnlaaVal
namespace Go.Proofs.Ytcokdkhfnlhnlaa
open Go.RowKit Go.BigFrame

theorem rowCost_nil : rowCost [] = 8 := rfl
theorem rowCost_snoc (vs : List V) (v : V) : rowCost (vs ++ [v]) = rowCost vs + (8 + (v.s.length : Int)) := by
  unfold rowCost
  rw [List.map_append, List.sum_append]
  simp
  omega
theorem rowCost_take {vs : List V} {j : Nat} (h : j < vs.length) : rowCost (vs.take (j + 1)) = rowCost (vs.take j) + (8 + ((vs[j]).s.length : Int)) := by
  rw [List.take_succ_eq_append_getElem h, rowCost_snoc]
theorem rowCost_mono : ∀ (vs : List V) (j : Nat), 8 ≤ rowCost (vs.take j) ∧ rowCost (vs.take j) ≤ rowCost vs := by
  intro vs j
  have h : ∀ l : List V, 8 ≤ rowCost l := fun l => by unfold rowCost; omega
  refine ⟨h _, ?_⟩
  conv => rhs; rw [← List.take_append_drop j vs]
  unfold rowCost
  rw [List.map_append, List.sum_append]
  omega
theorem rowCost_le {vs : List V} (n m : Nat) (hn : vs.length ≤ n) (h : ∀ v ∈ vs, v.s.length ≤ m) : rowCost vs ≤ 8 + n * (8 + m) := by
  have key : ∀ l : List V, (∀ v ∈ l, v.s.length ≤ m) → (l.map fun v => 8 + v.s.length).sum ≤ l.length * (8 + m) := fun l => by
    induction l with
    | nil => intro _; simp
    | cons a t ih =>
      intro hl
      have h1 := ih fun v hv => hl v (by simp [hv])
      have h2 := hl a (by simp)
      rw [List.map_cons, List.sum_cons, List.length_cons, Nat.add_mul, Nat.one_mul]
      omega
  have h1 := key vs h
  have h2 : vs.length * (8 + m) ≤ n * (8 + m) := Nat.mul_le_mul_right _ hn
  unfold rowCost
  have h3 : (((n * (8 + m) : Nat)) : Int) = (n : Int) * (8 + (m : Int)) := by rw [Int.natCast_mul, Int.natCast_add]; rfl
  rw [← h3]
  omega

theorem rowCost_pos (vs : List V) : 8 ≤ rowCost vs := by unfold rowCost; omega
theorem wrap64_fits {n : Int} (h0 : 8 ≤ n) (h1 : n ≤ 9223372036854775807) : wrap64 n = n := by unfold wrap64; omega
theorem row_start (vs : List V) : Value.int .i64 8 = .int .i64 (wrap64 (rowCost (vs.take 0))) := by rw [List.take_zero]; exact congrArg _ (by simp [wrap64, rowCost])
theorem wrap_row (R : Int) (n : Nat) : wrap64 (R + (8 + (n : Int))) = wrap64 (wrap64 R + wrap64 (8 + n)) ∧ wrap64 (R + (8 + (n : Int))) = wrap64 (wrap64 (wrap64 R + 8) + n) := by
  unfold wrap64
  omega

set_option maxRecDepth 100000 in
theorem purRow_wrap (u : Value) (vs : List V) (w : World) (hu : RdVals w u vs) :
    Calls Try.prog 18 #[u] w fun e w' => e = .returned (.int .i64 (wrap64 (rowCost vs))) ∧ Ext w w' := by
  obtain ⟨ao, cap, rfl, h1, h2, hat⟩ := hu
  have HAT := Lib.hid hat
  obtain ⟨N, hN⟩ : ∃ N, vs.length = N := ⟨_, rfl⟩
  have HN := Lib.hid hN
  have HT := Lib.hid (show rowCost vs = rowCost (vs.take N) by rw [← hN, List.take_length])
  unfold maxLen at h2
  rw [hN] at h1 ⊢
  clear hat hN
  go_enter Try.func18, Try.ntmps18
  go_wp2_with fail
  go_loopw [3, 8] (fun s i wr => ∃ j : Nat, j ≤ N ∧ i = .int .i64 j ∧ s = .int .i64 (wrap64 (rowCost (vs.take j))) ∧ Ext w wr) (fun _ i _ => N - (intOf i).toNat)
  case atStart => exact ⟨0, Nat.zero_le _, rfl, row_start vs, Ext.keeps.refl _⟩
  case round =>
    obtain ⟨j, hj, rfl, rfl, hext⟩ := hrel
    have HE := Lib.hid hext
    clear hext
    by_cases hlt : j < N
    · have hjl : j < vs.length := by have := HN.out; omega
      obtain ⟨g, off, rfl, hcs⟩ := HAT.out j hjl
      have hk := fun i y hy => (HE.out.cell (lt_of_cell (hcs i y hy))).trans (hcs i y hy)
      have HS := Lib.hid (rowCost_take hjl)
      have c0 := hk 0 _ rfl
      have c1 := hk 1 _ rfl
      have c2 := hk 2 _ rfl
      rw [Nat.add_zero] at c0
      generalize vs[j] = v at c0 c1 c2 HS
      obtain ⟨vk, vn, vs'⟩ := v
      simp only at c0 c1 c2
      clear hcs hk hjl
      generalize hR : rowCost (vs.take j) = R at HS ⊢
      have HW := Lib.hid (wrap_row R vs'.length)
      go_wp2_with fail
      go_roundw
      case rel =>
        refine ⟨j + 1, by omega, by go_num, ?_, Ext.trans HE.out (ext_new _ _)⟩
        have h := HS.out
        simp only at h
        rw [h, HW.out.1]
      case measure => simp [intOf]; omega
    · have HJ := Lib.hid (show j = N by omega)
      go_wp2_with fail
      go_ret
      exact ⟨by rw [HT.out, HJ.out]; rfl, HE.out⟩

theorem purRow_any (u : Value) (vs : List V) (w : World) (hu : RdVals w u vs) (hc : rowCost vs ≤ 9223372036854775807) :
    Calls Try.prog 18 #[u] w fun e w' => e = .returned (.int .i64 (rowCost vs)) ∧ Ext w w' := by
  have h := purRow_wrap u vs w hu
  rwa [wrap64_fits (rowCost_pos vs) hc] at h

theorem rowsCost_take {rs : List (List V)} {j : Nat} (h : j < rs.length) : rowsCost (rs.take (j + 1)) = rowsCost (rs.take j) + rowCost rs[j] := by
  rw [List.take_succ_eq_append_getElem h]
  unfold rowsCost
  rw [List.map_append, List.sum_append]
  simp
theorem rowsCost_nonneg (rs : List (List V)) : 0 ≤ rowsCost rs := by
  unfold rowsCost
  induction rs with
  | nil => simp
  | cons a t ih => simp only [List.map_cons, List.sum_cons]; have := rowCost_pos a; omega
theorem rowsCost_mono (rs : List (List V)) (j : Nat) : 0 ≤ rowsCost (rs.take j) ∧ rowsCost (rs.take j) ≤ rowsCost rs := by
  refine ⟨rowsCost_nonneg _, ?_⟩
  conv => rhs; rw [← List.take_append_drop j rs]
  have h : rowsCost (rs.take j ++ rs.drop j) = rowsCost (rs.take j) + rowsCost (rs.drop j) := by unfold rowsCost; rw [List.map_append, List.sum_append]
  rw [h]
  have := rowsCost_nonneg (rs.drop j)
  omega

theorem rows_start (rs : List (List V)) : Value.int .i64 0 = .int .i64 (wrap64 (rowsCost (rs.take 0))) := by rw [List.take_zero]; exact congrArg _ (by simp [wrap64, rowsCost])

set_option maxRecDepth 100000 in
theorem purRows_wrap (u : Value) (rs : List (List V)) (w : World) (hu : RdRows w u rs) :
    Calls Try.prog 20 #[u] w fun e w' => e = .returned (.int .i64 (wrap64 (rowsCost rs))) ∧ Ext w w' := by
  obtain ⟨ao, cap, rfl, h1, h2, hat⟩ := hu
  have HAT := Lib.hid hat
  obtain ⟨N, hN⟩ : ∃ N, rs.length = N := ⟨_, rfl⟩
  have HN := Lib.hid hN
  have HT := Lib.hid (show rowsCost rs = rowsCost (rs.take N) by rw [← hN, List.take_length])
  unfold maxLen at h2
  rw [hN] at h1 ⊢
  clear hat hN
  go_enter Try.func20, Try.ntmps20
  go_wp2_with fail
  go_loopw [3, 8] (fun s i wr => ∃ j : Nat, j ≤ N ∧ i = .int .i64 j ∧ s = .int .i64 (wrap64 (rowsCost (rs.take j))) ∧ Ext w wr) (fun _ i _ => N - (intOf i).toNat)
  case atStart => exact ⟨0, Nat.zero_le _, rfl, rows_start rs, Ext.keeps.refl _⟩
  case round =>
    obtain ⟨j, hj, rfl, rfl, hext⟩ := hrel
    have HE := Lib.hid hext
    clear hext
    by_cases hlt : j < N
    · have hjl : j < rs.length := by have := HN.out; omega
      obtain ⟨x, v, rfl, hrv, hcv⟩ := HAT.out j hjl
      have hcx := (HE.out.cell (lt_of_cell hcv)).trans hcv
      have HV := Lib.hid (hrv.mono HE.out)
      have HS := Lib.hid (rowsCost_take hjl)
      generalize rs[j] = vs at HV HS
      have HR := Lib.hid (fun W hW => purRow_wrap v vs W (HV.out.mono hW))
      obtain ⟨av, cv, rfl, -, -⟩ := HV.out.shape
      generalize vs.length = nv at hcx HR
      clear hrv hcv hjl HV
      generalize hR : rowsCost (rs.take j) = R at HS ⊢
      generalize rowCost vs = rc at HS HR
      have HW := Lib.hid (show wrap64 (R + rc) = wrap64 (wrap64 R + wrap64 rc) by unfold wrap64; omega)
      go_wp2_with fail
      refine (HR.out _ (Ext.keeps.refl _)).mono ?_
      rintro e w2 ⟨rfl, hx⟩
      have HX := Lib.hid (Ext.trans HE.out hx)
      clear hx
      go_wp2_with fail
      go_roundw
      case rel => exact ⟨j + 1, by omega, by go_num, by rw [HS.out, HW.out], HX.out⟩
      case measure => simp [intOf]; omega
    · have HJ := Lib.hid (show j = N by omega)
      go_wp2_with fail
      go_ret
      exact ⟨by rw [HT.out, HJ.out]; rfl, HE.out⟩

theorem purRows_any (u : Value) (rs : List (List V)) (w : World) (hu : RdRows w u rs) (hc : rowsCost rs ≤ 9223372036854775807) :
    Calls Try.prog 20 #[u] w fun e w' => e = .returned (.int .i64 (rowsCost rs)) ∧ Ext w w' := by
  have h := purRows_wrap u rs w hu
  have e : wrap64 (rowsCost rs) = rowsCost rs := by
    have := rowsCost_nonneg rs
    unfold wrap64
    omega
  rwa [e] at h

end Go.Proofs.Ytcokdkhfnlhnlaa
