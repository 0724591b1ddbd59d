/-
  The contracts of the document's own Flip, Used, New, Ints.
-/
import Derived.Test.YthelgjoobckbaaaPagesRefW
namespace Go.Proofs.Ythelgjoobckbaaa
open Go.RowKit Go.BigFrame

theorem u8_xorV (a b : UInt8) : Value.int .u8 (bits BinOp.xor IntKind.u8 (a.toNat : Int) (b.toNat : Int)) = bv (a ^^^ b) := by
  have e : bits BinOp.xor IntKind.u8 (a.toNat : Int) (b.toNat : Int) = (((a ^^^ b).toNat : Nat) : Int) := by
    have h : a.toNat ^^^ b.toNat < 2 ^ 8 := Nat.xor_lt_two_pow a.toNat_lt b.toNat_lt
    have ha' : a.toNat % 2 ^ IntKind.u8.bits = a.toNat := Nat.mod_eq_of_lt a.toNat_lt
    have hb' : b.toNat % 2 ^ IntKind.u8.bits = b.toNat := Nat.mod_eq_of_lt b.toNat_lt
    rw [UInt8.toNat_xor]
    simp only [bits, BitVec.ofInt_natCast, BitVec.toNat_xor, BitVec.toNat_ofNat, ha', hb']
    exact wraps_u8 _ (by omega) (by omega)
  rw [e]
  rfl

theorem bytes_own (w : World) (l : List UInt8) (hm : l.length ≤ maxLen) :
    ∃ cap w1, (convert 9 33 (.string ⟨l.toArray⟩)).run Try.prog w = .ok (.slice (some ⟨w.heap.size, 0, none⟩) l.length cap) w1 ∧ l.length ≤ cap ∧ cap ≤ maxLen ∧
      (∀ i u, (l.map bv)[i]? = some u → w1.cell? ⟨w.heap.size, i, none⟩ = some u) ∧ (∀ j, j < l.length → w1.frozen? ⟨w.heap.size, j, none⟩ = false) ∧ w.heap.size < w1.heap.size ∧ Ext w w1 := by
  have hr := run_bytes_of_string (P := Try.prog) w 9 33 5 ⟨l.toArray⟩ Try.underlying9 Try.underlying33 Try.underlying5
  have hsz : (ByteArray.mk l.toArray).size = l.length := by
    show l.toArray.size = _
    simp
  rw [hsz] at hr
  have hge := grownCap_ge w l.length 0 5
  have hle := grownCap_le_maxLen w l.length 0 5 hm
  generalize grownCap w l.length 0 5 = C at hr hge hle
  have hrow : (bytesRow ⟨l.toArray⟩ C).size = C := by
    simp [bytesRow]
    omega
  have hcells : ∀ i u, (l.map bv)[i]? = some u → (bytesRow ⟨l.toArray⟩ C)[i]? = some u := fun i u hu => by
    rw [List.getElem?_map] at hu
    obtain ⟨c, hc, rfl⟩ := Option.map_eq_some_iff.1 hu
    have hi := (List.getElem?_eq_some_iff.1 hc).1
    unfold bytesRow
    rw [Array.getElem?_append_left (by simpa using hi), Array.getElem?_map]
    have : l.toArray[i]? = some c := by simpa using hc
    rw [this]
    rfl
  generalize bytesRow ⟨l.toArray⟩ C = R at hr hrow hcells
  refine ⟨C, _, hr, hge, hle, fun i u hu => ?_, fun j hj => ?_, ?_, ?_⟩
  · show ((w.drew.alloc _).cell? ⟨w.drew.heap.size, i, none⟩) = _
    unfold World.cell?
    rw [heap_alloc_new]
    simpa using hcells i u hu
  · show ((w.drew.alloc _).frozen? ⟨w.drew.heap.size, j, none⟩) = _
    unfold World.frozen?
    rw [heap_alloc_new]
    simp
    omega
  · show w.heap.size < (w.drew.alloc _).heap.size
    simp
  · exact Ext.trans (Ext.drew w) (ext_new w.drew _)

theorem refUsed_any (q g : Nat) (s : St) (w : World) (h : RSto w q g s) :
    Calls Try.prog 15 #[.pointer (some ⟨q, 0, none⟩)] w fun e w' => e = .returned (.int .i64 (usedS s)) ∧ w = w' := by
  have hq := h.top
  have hfew := h.few
  have HR := Lib.hid h
  clear h
  generalize hL : s.length = L at hq hfew
  replace hL := Lib.hid hL
  go_enter Try.func15, Try.ntmps15
  go_wp2_with fail
  go_loopw [3, 4] (fun n i wr => ∃ (j u : Nat), j ≤ L ∧ u ≤ j ∧ i = .int .i64 j ∧ n = .int .i64 u ∧ u = usedS (s.take j) ∧ w = wr) (fun _ i _ => L - (intOf i).toNat)
  case atStart => exact ⟨0, 0, Nat.zero_le _, Nat.le_refl _, rfl, rfl, rfl, rfl⟩
  case round =>
    obtain ⟨j, u, hj, hu, rfl, rfl, hus, rfl⟩ := hrel
    have HU := Lib.hid hus
    clear hus
    by_cases hlt : j < L
    · have hjs : j < s.length := by have := hL.out; omega
      have hs : s[j]? = some s[j] := List.getElem?_eq_getElem hjs
      have hc := HR.out.on hs
      have HT := Lib.hid (show usedS (s.take (j + 1)) = usedS (s.take j) + (if (s[j]).isSome = true then 1 else 0) from by
        unfold usedS
        rw [List.take_succ_eq_append_getElem hjs, List.countP_append, List.countP_singleton])
      clear hs
      generalize (s[j]).isSome = B at hc HT
      cases B with
      | true =>
        go_wp2_with fail
        go_roundw
        case rel => exact ⟨j + 1, u + 1, by omega, by omega, by go_num, by go_num, by rw [HT.out, ← HU.out]; rfl, trivial⟩
        case measure => simp [intOf]; omega
      | false =>
        go_wp2_with fail
        go_roundw
        case rel => exact ⟨j + 1, u, by omega, by omega, by go_num, rfl, by rw [HT.out, ← HU.out]; rfl, trivial⟩
        case measure => simp [intOf]; omega
    · have HF := Lib.hid (show u = usedS s from by rw [HU.out, List.take_of_length_le (by have := hL.out; omega)])
      go_wp2_with fail
      go_ret
      exact ⟨by rw [← HF.out]; rfl, rfl⟩

theorem rd_onlyP {g : Nat} {w w' : World} {v : Value} {l : List UInt8} (hr : Rd w v l) (ho : OnlyP g w w') (hb : ∀ k, v.ownBlock = some k → k ≠ g) : Rd w' v l := by
  rcases hr with h | ⟨x, cap, rfl, h2, h3, h4⟩
  · exact .inl h
  · refine .inr ⟨x, cap, rfl, h2, h3, fun i u hu => ho.cell (h4 i u hu) (fun hh => hb x.block rfl (by have h2 : (x.add i).block = g := (by simpa using hh); rwa [add_block] at h2))⟩

set_option maxRecDepth 100000 in
set_option maxHeartbeats 1000000 in
theorem refFlip_any (q g : Nat) (s : St) (id k : Int) (m : UInt8) (w : World) (h : RSto w q g s) (hok : okS s) (h0 : -9223372036854775808 ≤ id) (h1 : id ≤ 9223372036854775807) (h2 : -9223372036854775808 ≤ k) (h3 : k ≤ 9223372036854775807) :
    Calls Try.prog 33 #[.pointer (some ⟨q, 0, none⟩), .int .i64 id, .int .i64 k, .int .u8 m.toNat] w fun e w' => e = .returned (.tuple #[]) ∧ RSto w' q g (flipS s id k m) ∧ OnlyP g w w' := by
  have HH := Lib.hid (refHas_any q g s id w h h0 h1)
  have hq := h.top
  have hfew := h.few
  unfold flipS
  obtain ⟨M, hM⟩ : ∃ M : Nat, M = m.toNat := ⟨_, rfl⟩
  rw [← hM]
  have hMlt : M ≤ 255 := by have := m.toNat_lt; omega
  cases hp : pageS s id with
  | none =>
    have HR := Lib.hid h
    rw [hp] at HH
    clear hp hq hfew h hM
    go_enter Try.func33, Try.ntmps33
    go_wp2_with fail
    refine HH.out.mono ?_
    rintro e w2 ⟨rfl, rfl⟩
    go_wp2_with fail
    go_end0
    exact ⟨rfl, HR.out, OnlyP.refl _ _⟩
  | some p =>
    by_cases hk0 : k < 0
    · have HR := Lib.hid h
      simp only
      rw [if_neg (by omega)]
      have hd : decide (0 ≤ k) = false := decide_eq_false (by omega)
      rw [hp] at HH
      clear hp hq hfew h hM
      go_enter Try.func33, Try.ntmps33
      go_wp2_with fail
      refine HH.out.mono ?_
      rintro e w2 ⟨rfl, rfl⟩
      go_wp2_with fail
      go_end0
      exact ⟨rfl, HR.out, OnlyP.refl _ _⟩
    · obtain ⟨c, rfl⟩ := Int.eq_ofNat_of_zero_le (show 0 ≤ k by omega)
      by_cases hc64 : c < 64
      · obtain ⟨k0, k1, hs⟩ := pageS_lt hp
        have hp64 := hok.2 p (pageS_mem hp)
        rw [hp] at HH
        obtain ⟨i, rfl⟩ := Int.eq_ofNat_of_zero_le k0
        rw [Int.toNat_natCast] at hs
        have hcell := h.bytes hs
        have hlen : c < p.length := by omega
        obtain ⟨cap, w1, hcv, hc1, hc2, hcs, hfs, hlt1, hx1⟩ := bytes_own w p (by unfold maxLen; omega)
        have hcc := hcs c (bv p[c]) (by rw [List.getElem?_map, List.getElem?_eq_getElem hlen]; rfl)
        have hfc := hfs c hlen
        have hgne : w.heap.size ≠ g := by have := h.lt; omega
        have hT : turnB p c m = p.set c (p[c] ^^^ m) := by unfold turnB; rw [List.getD_eq_getElem?_getD, List.getElem?_eq_getElem hlen]; rfl
        have hxor := u8_xorV p[c] m
        rw [← hM] at hxor
        have HRD2 := Lib.hid (show Rd (w1.setCell ⟨w.heap.size, c, none⟩ (bv (p[c] ^^^ m))) (.slice (some ⟨w.heap.size, 0, none⟩) p.length cap) (turnB p c m) from by
          refine .inr ⟨⟨w.heap.size, 0, none⟩, cap, by rw [hT]; simp, by rw [hT]; simpa using hc1, hc2, fun j u hu => ?_⟩
          rw [add_at, Nat.zero_add]
          rw [hT, List.map_set, List.getElem?_set] at hu
          by_cases e : c = j
          · subst e
            rw [if_pos rfl] at hu
            split at hu
            · cases hu
              exact World.cell?_setCell_same _ _ _ hcc
            · cases hu
          · rw [if_neg e] at hu
            rw [cell_set_other (.inr (fun h => e h.symm))]
            exact hcs j u hu)
        simp only [Int.toNat_natCast]
        rw [if_pos ⟨by omega, by omega⟩]
        have HS := Lib.hid hs
        obtain ⟨S', hS'⟩ : ∃ S', setS s (i : Int) (some (turnB p c m)) = S' := ⟨_, rfl⟩
        rw [hS']
        have HST := Lib.hid (show s.set i (some (turnB p c m)) = S' from hS')
        have HX2 := Lib.hid (show Ext w (w1.setCell ⟨w.heap.size, c, none⟩ (bv (p[c] ^^^ m))) from hx1.setCell (p := ⟨w.heap.size, c, none⟩) (Nat.le_refl _) _)
        have HR2 := Lib.hid (h.mono HX2.out)
        generalize turnB p c m = T at HRD2 HST
        unfold bv at hcc
        rw [← hxor] at HRD2 HX2 HR2
        obtain ⟨C, hC⟩ : ∃ C : Nat, C = p[c].toNat := ⟨_, rfl⟩
        have hClt : C ≤ 255 := by have := p[c].toNat_lt; omega
        rw [← hC] at hcc HRD2 HX2 HR2
        clear hp hs h hM hS' hT hxor hC hcs hfs hx1 hok hc64
        generalize hPL : p.length = PL at hcv HRD2 hc1 hlen hp64
        subst hp64
        generalize s.length = L at hq hfew k1
        go_enter Try.func33, Try.ntmps33
        go_wp2_with fail
        refine HH.out.mono ?_
        rintro e w2 ⟨rfl, rfl⟩
        go_wp2_with fail
        generalize w1.setCell ⟨w.heap.size, c, none⟩ (.int .u8 (bits BinOp.xor IntKind.u8 (C : Int) (M : Int))) = W2 at HRD2 HX2 HR2 ⊢
        have HRZ := Lib.hid (HR2.out.mono (Ext.drew W2))
        have hqz : ∀ z : Later (OnlyP g) W2.drew, z.val.cell? ⟨q, 0, none⟩ = some (.slice (some ⟨g, 0, none⟩) L L) := fun z => World.grownBy.cell z.ext (show W2.drew.cell? ⟨q, 0, none⟩ = _ from (HX2.out.cell (lt_of_cell hq)).trans hq) (fun hh => HR2.out.ne (by simpa using hh))
        have hcz : ∀ z : Later (OnlyP g) W2.drew, (convert 33 9 (.slice (some ⟨w.heap.size, 0, none⟩) 64 cap)).run Try.prog z.val = .ok (.string ⟨T.toArray⟩) z.val := fun z =>
          (rd_onlyP (HRD2.out.mono (Ext.drew W2)) z.ext (fun k hk => by cases hk; exact hgne)).string _ _ _ Try.underlying33 Try.underlying5 Try.underlying9
        refine wp_region_segs (OnlyP g) (OnlyP.keeps _) [([0, 1, 2, 3, 4, 5, 6, 7, 8], some 9)] (by kernel_rfl) (by kernel_rfl) (fun c a a' w e h => (by exact ⟨e ▸ h.1, h.2⟩)) ?_
        simp only [pickSegs, pickOps, List.map_cons, List.map_nil, Option.map_some, Option.getD_some, List.getElem?_toArray, List.getElem?_cons_zero, List.getElem?_cons_succ]
        refine wpSegs_some fun K hK => ?_
        repeat go_big_quiet_step (fail)
        refine wpQuiet_nil ?_
        clear hqz hcz
        have c1 := HRZ.out.bytes HS.out
        have f1 := HRZ.out.free (i * 2 + 1)
        go_wp2_with fail
        refine ⟨OnlyP.set g (i * 2 + 1) _ _, hK _ _ ?_⟩
        clear hK K
        refine wpSegs_nil ?_
        go_wp2_with fail
        go_end0
        refine ⟨rfl, ?_, OnlyP.trans (OnlyP.of_ext (Ext.trans HX2.out (Ext.drew W2))) (OnlyP.set g (i * 2 + 1) _ _)⟩
        rw [← HST.out]
        exact HRZ.out.putB HS.out T
      · have HR := Lib.hid h
        simp only
        rw [if_neg (by omega)]
        rw [hp] at HH
        clear hp hq hfew h hM
        go_enter Try.func33, Try.ntmps33
        go_wp2_with fail
        refine HH.out.mono ?_
        rintro e w2 ⟨rfl, rfl⟩
        go_wp2_with fail
        go_end0
        exact ⟨rfl, HR.out, OnlyP.refl _ _⟩

end Go.Proofs.Ythelgjoobckbaaa
