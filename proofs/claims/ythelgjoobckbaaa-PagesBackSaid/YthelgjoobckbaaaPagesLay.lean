/-
  The contracts of the document's own lay, Read.
-/
import Derived.Test.YthelgjoobckbaaaPagesRef
namespace Go.Proofs.Ythelgjoobckbaaa
open Go.RowKit

theorem own_shape {base : Nat} {e : TypeId} {w : World} {v : Value} {n : Nat} {xs : List Value} (h : w.ownsRow base e 1 v n xs) : ∃ a cap, v = .slice a n cap ∧ n ≤ cap ∧ cap ≤ maxLen := by
  rcases h.2 with ⟨rfl, rfl⟩ | ⟨g, cap, cur, rfl, h2, h3, h4, h5, _⟩
  · exact ⟨none, 0, rfl, Nat.le_refl _, by simp [maxLen]⟩
  · exact ⟨_, cap, rfl, h4, h5⟩

theorem row_new (w : World) (xs : List Value) (t : TypeId) : ∀ j u, xs[j]? = some u → (w.alloc (.cells xs.toArray t)).cell? ((⟨w.heap.size, 0, none⟩ : Addr).add j) = some u := by
  intro j u hj
  rw [add_at, Nat.zero_add]
  unfold World.cell?
  rw [heap_alloc_new]
  simpa using hj
theorem ext_new (w : World) (o : Obj) : Ext w (w.alloc o) := (Below.refl _ w).alloc (Nat.le_refl _) _

theorem id4_values (id : Nat) (h : id ≤ 4096) : (id4 id).map bv = [.int .u8 ((id : Int) / 16777216), .int .u8 ((id : Int) / 65536), .int .u8 ((id : Int) / 256), .int .u8 ((id : Int) % 256)] := by
  unfold id4 bv
  simp only [List.map_cons, List.map_nil, UInt8.toNat_ofNat', List.cons.injEq, Value.int.injEq, true_and, and_true]
  refine ⟨?_, ?_, ?_, ?_⟩ <;> omega

set_option maxRecDepth 100000 in
set_option maxHeartbeats 1000000 in
theorem refLay_any (id : Nat) (b : Value) (l : List UInt8) (w : World) (hr : Rd w b l) (hl : l.length ≤ 56) (hid : id ≤ 4096) :
    Calls Try.prog 40 #[.int .i64 id, b] w fun e w' => e = .returned (.string ⟨(layP id l).toArray⟩) ∧ Ext w w' := by
  obtain ⟨i0, hi, hz0, hz1, hz2⟩ := info_parts Try.info5
  have HID := Lib.hid (id4_values id hid)
  have HL := Lib.hid hl
  have HO1 := Lib.hid (empty_owned w)
  have HX1 := Lib.hid (hr.mono (ext_new w (.cells #[] 5)))
  have HBV := Lib.hid (bv_oneCell l)
  have HLM := Lib.hid (show (l.map bv).length = l.length from List.length_map _)
  have HA1 := Lib.hid (ext_new w (.cells #[] 5))
  clear hr hl
  go_enter Try.func40, Try.ntmps40
  go_wp2_with (at_builtin; go_must (refine wpList_append_rd rfl (.tmp 6) (.tmp 7) 33 rfl w.heap.size 5 i0 (.int .u8 0) 1 Try.underlying33 hi hz0 hz1 hz2 rfl _ _ _ rfl HO1.out _ _ rfl HX1.out HBV.out (by rw [HLM.out]; have := HL.out; unfold maxLen; omega) (by rw [HLM.out]; have := HL.out; omega) (by simp) ?_); intro v2 w2 hown2 hgrow2; have HO2 := Lib.hid hown2; have HE2 := Lib.hid (show Ext w w2 from HA1.out.grown hgrow2 (by simp) (fun k hk => by cases hk; exact Nat.le_refl _)); clear hown2 hgrow2)
  go_loopw [5] (fun x wr => ∃ k n : Nat, n = l.length + k ∧ n ≤ 56 ∧ wr.ownsRow w.heap.size 5 1 x n ((l ++ zeros k).map bv) ∧ Ext w wr) (fun x _ => match x with | .slice _ n _ => 56 - n | _ => 0)
  case atStart =>
    refine ⟨0, l.length, rfl, HL.out, ?_, HE2.out⟩
    have h := HO2.out
    rw [List.nil_append, Nat.zero_add, HLM.out] at h
    simpa [zeros] using h
  case round =>
    obtain ⟨k, n, hn, hn56, hown, hext⟩ := hrel
    obtain ⟨a, cap, rfl, hc1, hc2⟩ := own_shape hown
    have HN := Lib.hid hn
    have HO := Lib.hid hown
    have HE := Lib.hid hext
    unfold maxLen at hc2
    clear hn hown hext
    by_cases hlt : n < 56
    · go_wp2_with (at_builtin; go_must (refine wpList_append_own _ rfl (.tmp 12) (.tmp 13) 33 rfl w.heap.size 5 i0 (.int .u8 0) 1 1 Try.underlying33 hi hz0 hz1 hz2 rfl (by decide) _ _ _ rfl (HO.out.alloc _) ⟨wr.heap.size, 0, none⟩ 1 1 [(.int .u8 0)] rfl rfl (row_new wr [(.int .u8 0)] 5) (by simp [Value.oneCell']) (by unfold maxLen; omega) (by omega) (by have := HE.out.size; simp; omega) ?_); intro v3 w3 hown3 hgrow3 _; have HO3 := Lib.hid hown3; have HE3 := Lib.hid (show Ext w w3 from (HE.out.alloc HE.out.size _).grown hgrow3 (by have := HE.out.size; simp; omega) (fun k hk => (HO.out.lt k hk).1)); clear hown3 hgrow3)
      go_roundw
      case rel =>
        refine ⟨k + 1, n + 1, by have := HN.out; omega, by omega, ?_, HE3.out⟩
        have h := HO3.out
        have e : (l ++ zeros k).map bv ++ [(.int .u8 0)] = (l ++ zeros (k + 1)).map bv := by
          unfold zeros
          rw [List.replicate_succ']
          simp [bv]
        rw [e] at h
        exact h
      case measure =>
        obtain ⟨a3, cap3, rfl, _, _⟩ := own_shape HO3.out
        simp
        omega
    · have h56 : n = 56 := by omega
      subst h56
      have HF := Lib.hid (show l ++ zeros k = fill l from by unfold fill; rw [show 56 - l.length = k by have := HN.out; omega])
      clear hlt hn56
      go_wp2_with (at_builtin; go_must (refine wpList_append_own _ rfl (.tmp 15) (.tmp 27) 33 rfl w.heap.size 5 i0 (.int .u8 0) 1 1 Try.underlying33 hi hz0 hz1 hz2 rfl (by decide) _ _ _ rfl (HO.out.alloc _) ⟨wr.heap.size, 0, none⟩ 4 4 [.int .u8 ((id : Int) / 16777216), .int .u8 ((id : Int) / 65536), .int .u8 ((id : Int) / 256), .int .u8 ((id : Int) % 256)] rfl rfl (row_new wr _ 5) (by simp [Value.oneCell']) (by unfold maxLen; simp) (by simp) (by have := HE.out.size; simp; omega) ?_); intro v3 w3 hown3 hgrow3 _; have HO3 := Lib.hid hown3; have HE3 := Lib.hid (show Ext w w3 from (HE.out.alloc HE.out.size _).grown hgrow3 (by have := HE.out.size; simp; omega) (fun k hk => (HO.out.lt k hk).1)); clear hown3 hgrow3)
      have HR3 := Lib.hid (show Rd w3 v3 (fill l ++ id4 id) from by
        have h := RdV.of_owns HO3.out
        rw [← HID.out, HF.out, ← List.map_append] at h
        exact h)
      have HLN := Lib.hid (show (fill l ++ id4 id).length = 60 from by rw [List.length_append, fill_length l HL.out]; rfl)
      refine (refSeal_any v3 (fill l ++ id4 id) w3 HR3.out (by rw [HLN.out]; omega)).mono ?_
      rintro e w4 ⟨v4, rfl, hown4, hx4⟩
      have HR4 : Rd w4 v4 (layP id l) := RdV.of_owns hown4
      have hcv := Rd.string (P := Try.prog) HR4 33 9 5 Try.underlying33 Try.underlying5 Try.underlying9
      have HE4 := Lib.hid (Ext.trans HE3.out hx4)
      clear hown4 hx4
      generalize hM : layP id l = M at HR4 hcv
      replace hM := Lib.hid hM
      clear HR4
      go_wp2_with fail
      go_ret
      exact ⟨by rw [hM.out]; rfl, HE4.out⟩

theorem RSto.mono {w w' : World} {q g : Nat} {s : St} (h : RSto w q g s) (hb : Ext w w') : RSto w' q g s := by
  refine ⟨?_, fun i o hi j u hj => ?_, fun j => ?_, h.ne, Nat.lt_of_lt_of_le h.lt hb.size, h.few⟩
  · rw [hb.cell (lt_of_cell h.top)]; exact h.top
  · have := h.at' i o hi j u hj
    rw [hb.cell (lt_of_cell this)]; exact this
  · have := h.free j
    unfold World.frozen? at this ⊢
    rw [hb.block g h.lt]
    exact this

set_option maxRecDepth 100000 in
theorem refRead_any (q g : Nat) (s : St) (id : Int) (w : World) (h : RSto w q g s) (hs0 : okS s) (h0 : -9223372036854775808 ≤ id) (h1 : id ≤ 9223372036854775807) :
    Calls Try.prog 17 #[.pointer (some ⟨q, 0, none⟩), .int .i64 id] w fun e w' => e = .returned (.tuple #[.string ⟨(readS s id).1.toArray⟩, .int .i64 (readS s id).2]) ∧ Ext w w' := by
  have HH := Lib.hid (refHas_any q g s id w h h0 h1)
  have hq := h.top
  have hfew := h.few
  unfold readS
  cases hp : pageS s id with
  | none =>
    rw [hp] at HH
    clear hp hq hfew
    go_enter Try.func17, Try.ntmps17
    go_wp2_with fail
    refine HH.out.mono ?_
    rintro e w2 ⟨rfl, rfl⟩
    go_wp2_with fail
    go_ret2
    exact ⟨rfl, Ext.keeps.refl _⟩
  | some p =>
    obtain ⟨k0, k1, hs⟩ := pageS_lt hp
    have hp64 := hs0.2 p (pageS_mem hp)
    rw [hp] at HH
    obtain ⟨k, rfl⟩ := Int.eq_ofNat_of_zero_le k0
    rw [Int.toNat_natCast] at hs
    have hc := h.bytes hs
    obtain ⟨u, w1, hcv, hru, hx1⟩ := bytes_of (P := Try.prog) w 9 33 5 ⟨(p.take 56).toArray⟩ Try.underlying9 Try.underlying33 Try.underlying5 (by show (p.take 56).toArray.size ≤ _; simp [maxLen]; omega)
    have HRU := Lib.hid (show Rd w1 u (p.take 56) from hru)
    have HX1 := Lib.hid (show Ext w w1 from hx1)
    have HLY := Lib.hid (refLay_any k u (p.take 56) w1 HRU.out (by rw [List.length_take]; omega) (by omega))
    have hext : (ByteArray.mk p.toArray).extract 0 56 = ⟨(p.take 56).toArray⟩ := by
      apply ByteArray.ext
      simp [ByteArray.data_extract]
    clear hp hs h hru hx1 hs0
    simp only [Int.toNat_natCast]
    generalize s.length = L at hq hfew k1
    by_cases hM : layP k (p.take 56) = p
    · rw [hM] at HLY
      rw [if_pos hM]
      clear hM
      generalize p.take 56 = T at hext hcv HRU HLY ⊢
      go_enter Try.func17, Try.ntmps17
      go_wp2_with fail
      refine HH.out.mono ?_
      rintro e w2 ⟨rfl, rfl⟩
      go_wp2_with fail
      refine HLY.out.mono ?_
      rintro e w3 ⟨rfl, hx3⟩
      have HX3 := Lib.hid (Ext.trans HX1.out hx3)
      clear hx3
      go_wp2_with fail
      go_ret2
      exact ⟨rfl, HX3.out⟩
    · rw [if_neg hM]
      have hqM : (layP k (p.take 56) == p) = false := beq_eq_false_iff_ne.2 hM
      clear hM
      generalize layP k (p.take 56) = M at HLY hqM
      generalize p.take 56 = T at hext hcv HRU HLY
      go_enter Try.func17, Try.ntmps17
      go_wp2_with fail
      refine HH.out.mono ?_
      rintro e w2 ⟨rfl, rfl⟩
      go_wp2_with fail
      refine HLY.out.mono ?_
      rintro e w3 ⟨rfl, hx3⟩
      have HX3 := Lib.hid (Ext.trans HX1.out hx3)
      clear hx3
      go_wp2_with fail
      go_ret2
      exact ⟨rfl, HX3.out⟩

end Go.Proofs.Ythelgjoobckbaaa
