/-
  The walk of the law LikeMiddle.
-/
import Derived.Test.YtmlaedhmgkcdpaaDoorLikeShown
import Derived.Test.YtmlaedhmgkcdpaaDoorLikeCheck
import Derived.Test.YtmlaedhmgkcdpaaDoorValid
import Derived.BigQuiet
import Derived.Test.YtmlaedhmgkcdpaaDoorMatchDP
namespace Go.Proofs.YtmlaedhmgkcdpaaDoor
open Go.RowKit Go.BigFrame

theorem cut_any (l : List UInt8) (c : Nat) : (⟨l.toArray⟩ : ByteArray).extract 0 (min l.length c) = ⟨(l.take c).toArray⟩ := by
  rw [extract_take l _ (Nat.min_le_left _ _)]
  congr 2
  rw [List.take_eq_take_iff]
  omega

theorem took_step (L : List (List UInt8)) (n i : Nat) (h : n < L.length) : ((L.take (n + 1)).take i).flatten = ((L.take n).take i).flatten ++ (if n < i then L[n] else []) := by
  rw [List.take_take, List.take_take]
  by_cases hi : n < i
  · rw [if_pos hi, Nat.min_eq_right (by omega), Nat.min_eq_right (by omega), List.take_succ_eq_append_getElem h, List.flatten_append]
    simp
  · rw [if_neg hi, Nat.min_eq_left (by omega), Nat.min_eq_left (by omega), List.append_nil]
theorem left_step (L : List (List UInt8)) (n k : Nat) (h : n < L.length) : ((L.take (n + 1)).drop k).flatten = ((L.take n).drop k).flatten ++ (if k ≤ n then L[n] else []) := by
  rw [List.take_succ_eq_append_getElem h]
  by_cases hk : k ≤ n
  · rw [if_pos hk, List.drop_append_of_le_length (by rw [List.length_take]; omega), List.flatten_append]
    simp
  · rw [if_neg hk, List.append_nil, List.drop_eq_nil_of_le (by rw [List.length_append, List.length_take]; simp; omega), List.drop_eq_nil_of_le (by rw [List.length_take]; omega)]
theorem took_len (L : List (List UInt8)) (n i : Nat) : ((L.take n).take i).flatten.length ≤ L.flatten.length := by
  have h : L = (L.take n).take i ++ (L.drop (min i n)) := by rw [List.take_take, List.take_append_drop]
  conv => rhs; rw [h]
  rw [List.flatten_append, List.length_append]
  omega
theorem left_len (L : List (List UInt8)) (n k : Nat) : ((L.take n).drop k).flatten.length ≤ L.flatten.length := by
  have h : L = (L.take n).take k ++ ((L.take n).drop k ++ L.drop n) := by rw [← List.append_assoc, List.take_append_drop, List.take_append_drop]
  conv => rhs; rw [h]
  rw [List.flatten_append, List.flatten_append, List.length_append, List.length_append]
  omega

/-- Both parts are like theirs, cut so. -/
def Cut (a b : List UInt8) (L : List (List UInt8)) (i k : Nat) : Prop := isB a (L.take i).flatten = true ∧ isB b (L.drop k).flatten = true
/-- So far a cut was found. -/
def SomeTo (a b : List UInt8) (L : List (List UInt8)) (i k : Nat) : Prop := (∃ i' k', i' < i ∧ i' ≤ k' ∧ k' ≤ L.length ∧ Cut a b L i' k') ∨ (∃ k', i ≤ k' ∧ k' < k ∧ Cut a b L i k')
theorem someTo_start (a b : List UInt8) (L : List (List UInt8)) : ¬ SomeTo a b L 0 0 := by
  rintro (⟨i', k', h, _⟩ | ⟨k', _, h, _⟩) <;> omega
theorem someTo_step (a b : List UInt8) (L : List (List UInt8)) (i k : Nat) (h : i ≤ k) : SomeTo a b L i (k + 1) ↔ SomeTo a b L i k ∨ Cut a b L i k := by
  constructor
  · rintro (h1 | ⟨k', h1, h2, h3⟩)
    · exact .inl (.inl h1)
    · by_cases e : k' = k
      · subst e; exact .inr h3
      · exact .inl (.inr ⟨k', h1, by omega, h3⟩)
  · rintro ((h1 | ⟨k', h1, h2, h3⟩) | h1)
    · exact .inl h1
    · exact .inr ⟨k', h1, by omega, h3⟩
    · exact .inr ⟨k, h, by omega, h1⟩
theorem someTo_next (a b : List UInt8) (L : List (List UInt8)) (i : Nat) : SomeTo a b L i (L.length + 1) ↔ SomeTo a b L (i + 1) (i + 1) := by
  constructor
  · rintro (⟨i', k', h1, h2, h3, h4⟩ | ⟨k', h1, h2, h3⟩)
    · exact .inl ⟨i', k', by omega, h2, h3, h4⟩
    · exact .inl ⟨i, k', by omega, h1, by omega, h3⟩
  · rintro (⟨i', k', h1, h2, h3, h4⟩ | ⟨k', h1, h2, h3⟩)
    · by_cases e : i' = i
      · subst e; exact .inr ⟨k', h2, by omega, h4⟩
      · exact .inl ⟨i', k', by omega, h2, h3, h4⟩
    · omega
theorem someTo_all (a b : List UInt8) (L : List (List UInt8)) : SomeTo a b L (L.length + 1) (L.length + 1) ↔ ∃ i k, i ≤ k ∧ k ≤ L.length ∧ Cut a b L i k := by
  constructor
  · rintro (⟨i', k', h1, h2, h3, h4⟩ | ⟨k', h1, h2, h3⟩)
    · exact ⟨i', k', h2, h3, h4⟩
    · omega
  · rintro ⟨i, k, h1, h2, h3⟩
    exact .inl ⟨i, k, by omega, h1, h2, h3⟩

set_option maxRecDepth 100000 in
set_option maxHeartbeats 2000000 in
theorem likeMiddle_walk (p q s : ByteArray) (w : World) (hp : p.size ≤ maxLen) (hq : q.size ≤ maxLen) (hs : s.size ≤ maxLen) (hT : Tabs w) :
    Calls Tryd.prog 7 #[.string p, .string q, .string s] w fun e w' => e = .returned (.bool true) ∧ Below w.heap.size w w' := by
  obtain ⟨l1, rfl, hl1⟩ := bytes_list p
  obtain ⟨l2, rfl, hl2⟩ := bytes_list q
  obtain ⟨l3, rfl, hl3⟩ := bytes_list s
  unfold maxLen at hp hq hs
  have HT := Lib.hid hT
  have HC1 := Lib.hid (cut_any l1 100)
  have HC2 := Lib.hid (cut_any l2 100)
  have HC3 := Lib.hid (cut_any l3 60)
  have ha : (l1.take 100).length ≤ 100 := by rw [List.length_take]; omega
  have hb : (l2.take 100).length ≤ 100 := by rw [List.length_take]; omega
  have ht : (l3.take 60).length ≤ 60 := by rw [List.length_take]; omega
  generalize l1.take 100 = a at HC1 ha
  generalize l2.take 100 = b at HC2 hb
  generalize l3.take 60 = t at HC3 ht
  obtain ⟨n1, hn1⟩ : ∃ n1, n1 = min l1.length 100 := ⟨_, rfl⟩
  obtain ⟨n2, hn2⟩ : ∃ n2, n2 = min l2.length 100 := ⟨_, rfl⟩
  obtain ⟨n3, hn3⟩ : ∃ n3, n3 = min l3.length 60 := ⟨_, rfl⟩
  have HM := Lib.hid (show min (l1.length : Int) 100 = n1 ∧ min (l2.length : Int) 100 = n2 ∧ min (l3.length : Int) 60 = n3 by omega)
  have ho1 : n1 ≤ l1.length := by omega
  have ho2 : n2 ≤ l2.length := by omega
  have ho3 : n3 ≤ l3.length := by omega
  have hq1 : l1.length ≤ 9223372036854775807 := by omega
  have hq2 : l2.length ≤ 9223372036854775807 := by omega
  have hq3 : l3.length ≤ 9223372036854775807 := by omega
  rw [← hn1] at HC1
  rw [← hn2] at HC2
  rw [← hn3] at HC3
  clear hn1 hn2 hn3
  clear hT hp hq hs hl1 hl2 hl3
  go_enter Tryd.func7, Tryd.ntmps7
  go_wp2_with fail
  refine (shown_any _ HT.out).mono ?_
  rintro e w1 ⟨rfl, hbb⟩
  have HB1 := Lib.hid hbb
  clear hbb
  go_wp2_with fail
  refine wp_region_segs Ext Ext.keeps [([0, 1, 2, 3, 4, 5, 6, 7, 8, 9, 10, 11, 12, 13, 14, 15, 16, 17], none)] (by kernel_rfl) (by kernel_rfl) (fun c a a' w e h => (by exact ⟨e ▸ h.1, h.2⟩)) ?_
  simp only [pickSegs, pickOps, List.map_cons, List.map_nil, Option.map_none, Option.getD_some, List.getElem?_toArray, List.getElem?_cons_zero, List.getElem?_cons_succ]
  refine wpSegs_none ?_
  obtain ⟨hm1, hm2, hm3⟩ := HM.out
  have hx1 := HC1.out
  have hx2 := HC2.out
  have hx3 := HC3.out
  repeat go_big_quiet_step (fail)
  refine wpQuiet_nil ?_
  refine wpSegs_nil ?_
  clear hm1 hm2 hm3 hx1 hx2 hx3 ho1 ho2 ho3 hq1 hq2 hq3
  have HB2 := Lib.hid (Ext.trans HB1.out (Ext.drew _))
  generalize w1.drew = w2 at HB2 ⊢
  have HCA := Lib.hid (fun w hT => Check_any a w hT (by omega))
  have HCB := Lib.hid (fun w hT => Check_any b w hT (by omega))
  have HVA := Lib.hid (fun w hT => valid_any a w hT (by omega))
  have HVB := Lib.hid (fun w hT => valid_any b w hT (by omega))
  have HVT := Lib.hid (fun w hT => valid_any t w hT (by omega))
  unfold sv at HCA HCB HVA HVB HVT
  go_wp2_with fail
  refine (HCA.out _ (HT.out.mono HB2.out)).mono ?_
  rintro e w3 ⟨rfl, hbb⟩
  have HB3 := Lib.hid (Ext.trans HB2.out hbb)
  clear hbb
  cases hea : elsOf a with
  | none =>
    rw [errN_none hea]
    clear hea
    go_wp2_with fail
    go_ret
    exact ⟨rfl, HB3.out⟩
  | some ps =>
    rw [errN_some hea]
    have HEA := Lib.hid hea
    clear hea
    go_wp2_with fail
    refine (HCB.out _ (HT.out.mono HB3.out)).mono ?_
    rintro e w4 ⟨rfl, hbb⟩
    have HB4 := Lib.hid (Ext.trans HB3.out hbb)
    clear hbb
    cases heb : elsOf b with
    | none =>
      rw [errN_none heb]
      clear heb
      go_wp2_with fail
      go_ret
      exact ⟨rfl, HB4.out⟩
    | some qs =>
      rw [errN_some heb]
      have HEB := Lib.hid heb
      clear heb
      go_wp2_with fail
      refine (HVA.out _ (HT.out.mono HB4.out)).mono ?_
      rintro e w5 ⟨rfl, hbb⟩
      have HB5 := Lib.hid (Ext.trans HB4.out hbb)
      clear hbb
      cases hva : Lib.validD a with
      | false =>
        clear hva
        go_wp2_with fail
        go_ret
        exact ⟨rfl, HB5.out⟩
      | true =>
        have HGA := Lib.hid ((goods_valid a).1 hva)
        clear hva
        go_wp2_with fail
        refine (HVB.out _ (HT.out.mono HB5.out)).mono ?_
        rintro e w6 ⟨rfl, hbb⟩
        have HB6 := Lib.hid (Ext.trans HB5.out hbb)
        clear hbb
        cases hvb : Lib.validD b with
        | false =>
          clear hvb
          go_wp2_with fail
          go_ret
          exact ⟨rfl, HB6.out⟩
        | true =>
          clear hvb
          go_wp2_with fail
          refine (HVT.out _ (HT.out.mono HB6.out)).mono ?_
          rintro e w7 ⟨rfl, hbb⟩
          have HB7 := Lib.hid (Ext.trans HB6.out hbb)
          clear hbb
          cases hvt : Lib.validD t with
          | false =>
            clear hvt
            go_wp2_with fail
            go_ret
            exact ⟨rfl, HB7.out⟩
          | true =>
            have HGT := Lib.hid ((goods_valid t).1 hvt)
            clear hvt HCA HCB HVA HVB HVT
            go_wp2_with fail
            refine (Letters_any t _ (HT.out.mono HB7.out) (by omega)).mono ?_
            rintro e w8 ⟨lv, rfl, ho8, hbb⟩
            rw [List.length_map] at ho8
            have HO8 := Lib.hid ho8
            have HB8 := Lib.hid (Ext.trans HB7.out hbb)
            obtain ⟨ao, cp, rfl, hc1, hc2, hca⟩ := RdV.cellsAt (RdV.of_owns ho8)
            rw [List.length_map] at hc1
            simp only [List.length_map] at *
            unfold maxLen at hc2
            have HCEL := Lib.hid hca
            clear ho8 hbb hca
            have HMID := Lib.hid (is_middle a b t ps qs HGA.out HEA.out HEB.out HGT.out)
            have HFL := Lib.hid (lets_flat t)
            have hlen := lets_length t
            generalize lets t = L at HO8 HCEL HMID HFL hlen hc1 ⊢
            obtain ⟨N, hN⟩ : ∃ N, N = L.length := ⟨_, rfl⟩
            have HN := Lib.hid hN
            have hN60 : N ≤ 60 := by omega
            rw [← hN] at hc1 ⊢
            clear hN hlen
            go_wp2_with fail
            go_loopw [12, 13] (fun so i wr => ∃ (k : Nat) (S : Bool), k ≤ N + 1 ∧ i = .int .i64 k ∧ so = .bool S ∧ (S = true ↔ SomeTo a b L k k) ∧ Ext w8 wr) (fun _ i _ => N + 1 - (intOf i).toNat)
            case atStart => exact ⟨0, false, Nat.zero_le _, rfl, rfl, ⟨(fun h => by cases h), (fun h => absurd h (someTo_start a b L))⟩, Below.refl _ _⟩
            case round =>
              obtain ⟨i, S, hi, rfl, rfl, hS, hext⟩ := hrel
              have HS := Lib.hid hS
              have HE := Lib.hid hext
              clear hS hext
              by_cases hlt : i ≤ N
              · go_wp2_with fail
                go_loopw [12, 14] (fun so i2 wr => ∃ (k : Nat) (S : Bool), i ≤ k ∧ k ≤ N + 1 ∧ i2 = .int .i64 k ∧ so = .bool S ∧ (S = true ↔ SomeTo a b L i k) ∧ Ext w8 wr) (fun _ i _ => N + 1 - (intOf i).toNat)
                case atStart => exact ⟨i, S, Nat.le_refl _, by omega, rfl, rfl, HS.out, HE.out⟩
                case round =>
                  obtain ⟨k, S2, hik, hk, rfl, rfl, hS2, hext2⟩ := hrel
                  have HS2 := Lib.hid hS2
                  have HE2 := Lib.hid hext2
                  clear hS2 hext2
                  by_cases hlk : k ≤ N
                  · go_wp2_with fail
                    go_loop [15, 16, 76] (fun x y n => ∃ m : Nat, m ≤ N ∧ n = .int .i64 m ∧ x = sv ((L.take m).take i).flatten ∧ y = sv ((L.take m).drop k).flatten) (fun _ _ n => N - (intOf n).toNat)
                    case atStart => exact ⟨0, Nat.zero_le _, rfl, by simp [sv], by simp [sv]⟩
                    case round =>
                      obtain ⟨m, hm, rfl, rfl, rfl⟩ := hrel
                      by_cases hlm : m < N
                      · have hml : m < L.length := by have := HN.out; omega
                        obtain ⟨z, rfl, hc0⟩ := HCEL.out m (sv L[m]) (by rw [List.getElem?_map, List.getElem?_eq_getElem hml]; rfl)
                        have hcell : wr.cell? (z.add m) = some (sv L[m]) := by rw [HE2.out.cell (lt_of_cell hc0)]; exact hc0
                        have HT1 := Lib.hid (took_step L m i hml)
                        have HL1 := Lib.hid (left_step L m k hml)
                        have hxl := took_len L m i
                        have hyl := left_len L m k
                        rw [HFL.out] at hxl hyl
                        have hcl : L[m].length ≤ 60 := by
                          have h1 : L[m].length ≤ L.flatten.length := (List.sublist_flatten_of_mem (List.getElem_mem hml)).length_le
                          rw [HFL.out] at h1
                          omega
                        generalize L[m] = c at hcell HT1 HL1 hcl
                        generalize ((L.take m).take i).flatten = xx at HT1 hxl ⊢
                        generalize ((L.take m).drop k).flatten = yy at HL1 hyl ⊢
                        clear hc0
                        unfold sv at hcell ⊢
                        by_cases h1 : m < i
                        · have HT2 := Lib.hid (HT1.out.trans (by rw [if_pos h1]))
                          have h2 : ¬ k ≤ m := by omega
                          have HL2 := Lib.hid (HL1.out.trans (by rw [if_neg h2, List.append_nil]))
                          go_wp2_with fail
                          go_round
                          case rel => exact ⟨m + 1, by omega, by go_num, by rw [HT2.out, sv_append], by rw [HL2.out]⟩
                          case measure => simp [intOf]; omega
                        · have HT2 := Lib.hid (HT1.out.trans (by rw [if_neg h1, List.append_nil]))
                          by_cases h2 : k ≤ m
                          · have HL2 := Lib.hid (HL1.out.trans (by rw [if_pos h2]))
                            go_wp2_with fail
                            go_round
                            case rel => exact ⟨m + 1, by omega, by go_num, by rw [HT2.out], by rw [HL2.out, sv_append]⟩
                            case measure => simp [intOf]; omega
                          · have HL2 := Lib.hid (HL1.out.trans (by rw [if_neg h2, List.append_nil]))
                            go_wp2_with fail
                            go_round
                            case rel => exact ⟨m + 1, by omega, by go_num, by rw [HT2.out], by rw [HL2.out]⟩
                            case measure => simp [intOf]; omega
                      · have hmN : m = N := by omega
                        have HTL := Lib.hid (show L.take m = L from List.take_of_length_le (by have := HN.out; omega))
                        have hxl := took_len L m i
                        have hyl := left_len L m k
                        rw [HFL.out] at hxl hyl
                        rw [HTL.out] at hxl hyl ⊢
                        have HCUT := Lib.hid (show Cut a b L i k ↔ isB a (L.take i).flatten = true ∧ isB b (L.drop k).flatten = true from Iff.rfl)
                        have HST := Lib.hid (someTo_step a b L i k hik)
                        have HI1 := Lib.hid (fun w hT => is_any a (L.take i).flatten w hT (by omega) (by omega))
                        have HI2 := Lib.hid (fun w hT => is_any b (L.drop k).flatten w hT (by omega) (by omega))
                        generalize (L.take i).flatten = xx at HCUT HI1 ⊢
                        generalize (L.drop k).flatten = yy at HCUT HI2 ⊢
                        generalize isB a xx = B1 at HCUT HI1
                        generalize isB b yy = B2 at HCUT HI2
                        subst hmN
                        clear hxl hyl
                        unfold sv at HI1 HI2 ⊢
                        cases S2 with
                        | true =>
                          go_wp2_with fail
                          go_roundw
                          case rel => exact ⟨k + 1, true, by omega, by omega, by go_num, rfl, ⟨fun _ => HST.out.2 (.inl (HS2.out.1 (by trivial))), fun _ => rfl⟩, HE2.out⟩
                          case measure => simp [intOf]; omega
                        | false =>
                          go_wp2_with fail
                          refine (HI1.out _ (HT.out.mono (Ext.trans HB8.out HE2.out))).mono ?_
                          rintro e w9 ⟨rfl, hbb⟩
                          have HB9 := Lib.hid (Ext.trans HE2.out hbb)
                          clear hbb
                          cases B1 with
                          | false =>
                            go_wp2_with fail
                            go_roundw
                            case rel =>
                              refine ⟨k + 1, false, by omega, by omega, by go_num, rfl, ⟨(fun h => by cases h), ?_⟩, HB9.out⟩
                              intro h
                              rcases HST.out.1 h with h | h
                              · have := HS2.out.2 h; simp at this
                              · have := (HCUT.out.1 h).1; simp at this
                            case measure => simp [intOf]; omega
                          | true =>
                            go_wp2_with fail
                            refine (HI2.out _ (HT.out.mono (Ext.trans HB8.out HB9.out))).mono ?_
                            rintro e w10 ⟨rfl, hbb⟩
                            have HB10 := Lib.hid (Ext.trans HB9.out hbb)
                            clear hbb
                            go_wp2_with fail
                            go_roundw
                            case rel =>
                              refine ⟨k + 1, B2, by omega, by omega, by go_num, rfl, ⟨fun h => HST.out.2 (.inr (HCUT.out.2 ⟨by trivial, h⟩)), ?_⟩, HB10.out⟩
                              intro h
                              rcases HST.out.1 h with h | h
                              · have := HS2.out.2 h; simp at this
                              · exact (HCUT.out.1 h).2
                            case measure => simp [intOf]; omega
                  · have hkN : k = N + 1 := by omega
                    have HS3 := Lib.hid (show S2 = true ↔ SomeTo a b L (i + 1) (i + 1) by rw [HS2.out, hkN, HN.out]; exact someTo_next a b L i)
                    subst hkN
                    go_wp2_with fail
                    go_roundw
                    case rel => exact ⟨i + 1, S2, by omega, by go_num, rfl, HS3.out, HE2.out⟩
                    case measure => simp [intOf]; omega
              · have hiN : i = N + 1 := by omega
                have HFIN := Lib.hid (show isB (a ++ 37 :: b) t = S from bool_iff (by
                  rw [HMID.out, HS.out, hiN, HN.out, someTo_all]
                  rfl))
                subst hiN
                have HI3 := Lib.hid (fun w hT => is_any (a ++ 37 :: b) t w hT (by rw [List.length_append, List.length_cons]; omega) (by omega))
                rw [HFIN.out] at HI3
                go_wp2_with fail
                rw [sv_append, sv_append, List.append_assoc]
                refine (HI3.out _ (HT.out.mono (Ext.trans HB8.out HE.out))).mono ?_
                rintro e w9 ⟨rfl, hbb⟩
                have HB9 := Lib.hid (Ext.trans (Ext.trans HB8.out HE.out) hbb)
                clear hbb
                cases S
                all_goals
                  go_wp2_with fail
                  go_ret
                  exact ⟨rfl, HB9.out⟩

end Go.Proofs.YtmlaedhmgkcdpaaDoor
