/-
  The program's contracts of layer 5: Drop, New, Put.
-/
import Derived.Test.YthelgjoobckbaaaPagesAllocs
namespace Go.Proofs.Ythelgjoobckbaaa
open Go.RowKit Go.BigFrame

variable {O : Nat → Prop} {p : Nat} {s : St} {w : World}

/-- One step behind the others. -/
theorem pchain {O O' : Nat → Prop} {w wr w' : World} {p : Nat} {s : St} {v : Value} (h : OnlyS O w wr) (hn : ∀ b, O' b → O b ∨ w.heap.size ≤ b) (hs : PStep O' wr p s w' v) :
    ∃ O'', PSto O'' w' p s ∧ OnlyS O w w' ∧ (∀ b, O'' b → O b ∨ w.heap.size ≤ b) ∧ (∀ b, O'' b → O' b ∨ wr.heap.size ≤ b) ∧ OnlyS O' wr w' ∧ (∀ k, v.ownBlock = some k → ¬ O'' k) := by
  obtain ⟨O'', h1, h2, h3, h4⟩ := hs
  refine ⟨O'', h1, OnlyS.trans h h2 (fun i hi hO => ?_), fun b hb => ?_, h3, h2, h4⟩
  · rcases hn i hO with h | h
    · exact h
    · omega
  · rcases h3 b hb with h' | h'
    · exact hn b h'
    · exact .inr (Nat.le_trans h.size h')
theorem own_onlyS {X : Nat → Prop} {base : Nat} {e : TypeId} {w w' : World} {v : Value} {n : Nat} {xs : List Value} (h : w.ownsRow base e 1 v n xs) (ho : OnlyS X w w') (hx : ∀ k, v.ownBlock = some k → ¬ X k) : w'.ownsRow base e 1 v n xs := by
  obtain ⟨h1, h2⟩ := h
  refine ⟨h1, ?_⟩
  rcases h2 with h2 | ⟨g, cap, cur, rfl, h3, h4, h5⟩
  · exact .inl h2
  · exact .inr ⟨g, cap, cur, rfl, h3, by rw [ho.block g (Array.getElem?_eq_some_iff.1 h4).1 (hx g rfl)]; exact h4, h5⟩

set_option maxRecDepth 100000 in
set_option maxHeartbeats 1000000 in
theorem pDrop_any (u : Value) (ids : List Int) (h : PSto O w p s) (hok : okS s) (hu : RdV w u (ids.map (Value.int .i64))) (hb : ids ≠ [] → ∀ k, u.ownBlock = some k → ¬ O k) (hl : ids.length ≤ 1000000) (hw : ∀ i ∈ ids, -9223372036854775808 ≤ i ∧ i ≤ 9223372036854775807) :
    Calls Try.prog 25 #[.pointer (some ⟨p, 0, none⟩), u] w fun e w' => e = .returned (.tuple #[]) ∧ PStep O w p (dropS s ids) w' .nilIface := by
  have HU := Lib.hid hu
  obtain ⟨ai, capi, rfl, hc1, hc2, -⟩ := RdV.cellsAt hu
  have HB := Lib.hid hb
  have HW := Lib.hid hw
  have HP := Lib.hid h
  have HOK := Lib.hid hok
  rw [List.length_map] at hc1 HU HB ⊢
  unfold maxLen at hc2
  obtain ⟨N, hN⟩ : ∃ N, ids.length = N := ⟨_, rfl⟩
  have HN := Lib.hid hN
  rw [hN] at hc1 hl HU HB ⊢
  clear hu hb hw h hok hN
  go_enter Try.func25, Try.ntmps25
  go_wp2_with fail
  go_loopw [8] (fun i wr => ∃ (k : Nat) (O' : Nat → Prop) (sk : St), k ≤ N ∧ i = .int .i64 k ∧ PSto O' wr p sk ∧ okS sk ∧ dropS s ids = dropS sk (ids.drop k) ∧ OnlyS O w wr ∧ (∀ b, O' b → O b ∨ w.heap.size ≤ b)) (fun i _ => N - (intOf i).toNat)
  case atStart => exact ⟨0, O, s, Nat.zero_le _, rfl, HP.out, HOK.out, rfl, OnlyS.refl _ _, fun b hb => .inl hb⟩
  case round =>
    obtain ⟨k, O', sk, hk, rfl, hps, hoks, hdr, hon, hnew⟩ := hrel
    have HPS := Lib.hid hps
    have HOKS := Lib.hid hoks
    have HDR := Lib.hid hdr
    have HON := Lib.hid hon
    have HNEW := Lib.hid hnew
    clear hps hoks hdr hon hnew
    by_cases hlt : k < N
    · have hki : k < ids.length := by have := HN.out; omega
      have hne : ids.map (Value.int .i64) ≠ [] := by rintro h; rw [List.map_eq_nil_iff] at h; rw [h] at hki; simp at hki
      have hne2 : ids ≠ [] := by rintro rfl; simp at hki
      obtain ⟨ao, ca, h7, _, _, h8⟩ := RdV.cellsAt (RdV.onlyS HU.out HON.out (fun _ => HB.out hne2))
      simp only [Value.slice.injEq] at h7
      obtain ⟨rfl, -, -⟩ := h7
      obtain ⟨x, rfl, hcx⟩ := h8 k (.int .i64 ids[k]) (by rw [List.getElem?_map, List.getElem?_eq_getElem hki]; rfl)
      have HF := Lib.hid (pFree_any ids[k] HPS.out HOKS.out (HW.out _ (List.getElem_mem hki)))
      have HD := Lib.hid (show dropS sk (ids.drop k) = dropS (freeS sk ids[k]).2 (ids.drop (k + 1)) from by rw [List.drop_eq_getElem_cons hki]; rfl)
      have HOK2 := Lib.hid (freeS_ok HOKS.out ids[k])
      generalize ids[k] = id at hcx HF HD HOK2
      clear h8 hne hne2 hki
      go_wp2_with fail
      refine HF.out.mono ?_
      rintro e w3 ⟨rfl, hst⟩
      obtain ⟨O'', k1, k2, k3, -, -, -⟩ := pchain HON.out HNEW.out hst
      have HK1 := Lib.hid k1
      have HK2 := Lib.hid k2
      have HK3 := Lib.hid k3
      clear hst k1 k2 k3
      go_wp2_with fail
      go_roundw
      case rel => exact ⟨k + 1, O'', _, by omega, by go_num, HK1.out, HOK2.out, by rw [HDR.out, HD.out], HK2.out, HK3.out⟩
      case measure => simp [intOf]; omega
    · have hF := Lib.hid (show dropS s ids = sk from by rw [HDR.out, List.drop_of_length_le (by have := HN.out; omega)]; rfl)
      go_wp2_with fail
      go_end0
      exact ⟨rfl, O', by rw [hF.out]; exact HPS.out, HON.out, HNEW.out, fun _ hk => by cases hk⟩

theorem Try.info_ptr : (Try.prog.info? 68).map (fun i => (i.zero, i.size, i.bytes)) = some (some (.pointer none), 1, 8) := by kernel_rfl

def PNewed (w : World) (n : Int) (e : Ending) (w' : World) : Prop :=
  (0 ≤ n ∧ n ≤ 4096 ∧ ∃ p O', e = .returned (.tuple #[.pointer (some ⟨p, 0, none⟩), .int .i64 0]) ∧ PSto O' w' p (List.replicate n.toNat none) ∧ (∀ b, O' b → w.heap.size ≤ b) ∧ Ext w w') ∨
  (¬ (0 ≤ n ∧ n ≤ 4096) ∧ e = .returned (.tuple #[.pointer none, .int .i64 1]) ∧ Ext w w')

theorem pNew_any (n : Int) (hn : -9223372036854775808 ≤ n ∧ n ≤ 9223372036854775807) : Calls Try.prog 9 #[.int .i64 n] w (PNewed w n) := by
  obtain ⟨h0, h1⟩ := hn
  by_cases hneg : n < 0
  · have hd : decide (n < 0) = true := decide_eq_true hneg
    go_enter Try.func9, Try.ntmps9
    go_wp2_with fail
    go_ret2
    exact .inr ⟨by omega, rfl, Below.refl _ _⟩
  · have hd : decide (n < 0) = false := decide_eq_false hneg
    by_cases hbig : 4096 < n
    · have hd2 : decide (4096 < n) = true := decide_eq_true hbig
      go_enter Try.func9, Try.ntmps9
      go_wp2_with fail
      go_ret2
      exact .inr ⟨by omega, rfl, Below.refl _ _⟩
    · have hd2 : decide (4096 < n) = false := decide_eq_false hbig
      obtain ⟨N, rfl⟩ := Int.eq_ofNat_of_zero_le (show 0 ≤ n by omega)
      obtain ⟨i0, hi, hz0, hz1, hz2⟩ := info_parts Try.info_ptr
      have hmk := run_makeSlice (P := Try.prog) w 61 68 i0 _ Try.underlying61 hi hz0 .i64 .i64 N N (by omega) (Int.le_refl _) (by rw [hz1]; omega) (by rw [hz2]; omega) (by omega)
      rw [hz1] at hmk
      simp only [Int.toNat_natCast, Nat.mul_one] at hmk
      have hcs : ∀ k u, (madeCells (Value.pointer none).cells N)[k]? = some u → k < N ∧ u = .pointer none := fun k u hu => by
        unfold madeCells at hu
        rw [Array.getElem?_map] at hu
        obtain ⟨y, hy, rfl⟩ := Option.map_eq_some_iff.1 hu
        have hk := (Array.getElem?_eq_some_iff.1 hy).1
        simp at hk
        have hsz : (Value.pointer none).cells.size = 1 := rfl
        refine ⟨hk, ?_⟩
        simp only [hsz, Nat.mod_one]
        rfl
      have hcs2 : ∀ k, k < N → (madeCells (Value.pointer none).cells N)[k]? = some (.pointer none) := fun k hk => by
        have hsz : k < (madeCells (Value.pointer none).cells N).size := by unfold madeCells; simpa using hk
        rw [Array.getElem?_eq_getElem hsz]
        exact congrArg some (hcs k _ (Array.getElem?_eq_getElem hsz)).2
      generalize madeCells (Value.pointer none).cells N = C at hmk hcs hcs2
      have HCS := Lib.hid hcs2
      clear hcs hcs2
      go_enter Try.func9, Try.ntmps9
      go_wp2_with fail
      go_ret2
      refine .inl ⟨by omega, by omega, w.heap.size + 1, _, rfl, ⟨w.heap.size, List.replicate N none, by simp [bytesT], ⟨?_, fun i o hi => ?_, fun i b l hi => ?_, fun i b l hi => ?_, fun j => ?_, fun i j b l l' hi => ?_, by omega, fun i b l hi => ?_, by simp; omega, by simp; omega⟩, rfl⟩, fun b hb => ?_, Ext.trans (ext_new w _) (ext_new _ _)⟩
      · unfold World.cell?
        rw [heap_alloc2_new]
        simp
      · rw [List.getElem?_replicate] at hi
        split at hi
        · rename_i hiN
          cases hi
          unfold World.cell?
          rw [heap_alloc2_old]
          simpa [ptrV] using HCS.out i hiN
        · cases hi
      · rw [List.getElem?_replicate] at hi
        split at hi <;> cases hi
      · rw [List.getElem?_replicate] at hi
        split at hi <;> cases hi
      · unfold World.frozen?
        rw [heap_alloc2_old]
        simp
      · rw [List.getElem?_replicate] at hi
        split at hi <;> cases hi
      · rw [List.getElem?_replicate] at hi
        split at hi <;> cases hi
      · rcases hb with rfl | rfl | ⟨l, hl⟩
        · omega
        · omega
        · cases (List.eq_of_mem_replicate hl)

end Go.Proofs.Ythelgjoobckbaaa
