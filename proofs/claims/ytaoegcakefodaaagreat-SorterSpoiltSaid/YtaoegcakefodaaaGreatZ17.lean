/-
  Texts of this proof, merged.
-/
import Derived.Test.YtaoegcakefodaaaGreatZ1
import Derived.Test.YtaoegcakefodaaaGreatZ2
import Derived.Test.YtaoegcakefodaaaGreatZ3
import Derived.Test.YtaoegcakefodaaaGreatZ4
import Derived.Test.YtaoegcakefodaaaGreatZ5
import Derived.Test.YtaoegcakefodaaaGreatZ7
import Derived.Test.YtaoegcakefodaaaGreatZ9
import Derived.Test.YtaoegcakefodaaaGreatZ10
import Derived.Test.YtaoegcakefodaaaGreatZ11
import Derived.Test.YtaoegcakefodaaaGreatZ12
import Derived.Test.YtaoegcakefodaaaGreatZ13
import Derived.Test.YtaoegcakefodaaaGreatZ14
import Derived.Test.YtaoegcakefodaaaGreatZ15
import Derived.Test.YtaoegcakefodaaaGreatZ16
namespace Go.Proofs.YtaoegcakefodaaaGreat
open Go.RowKit Go.BigFrame
set_option maxRecDepth 100000 in
set_option maxHeartbeats 4000000 in
theorem pValue17_any (O : Nat → Prop) (c p pos J left M : Nat) (v : V) (E : Int) (s : St) (ids : List Nat) (B t : List UInt8) (vi vr : Value) (w : World) (h : PSto O w p s) (hok : okS s) (hp : PgT s ids B J M E)
    (hC : CuM w c p (ids.drop ((pos + 55) / 56)) (((padB B ids.length).take (56 * ((pos + 55) / 56))).drop pos) left vi vr) (hox : ∀ b, O b → ¬ ownC c vi vr b)
    (hfew : ∀ i ∈ ids, i ≤ 4096) (hpos : pos ≤ 56 * J) (hat : (padB B ids.length).drop pos = encV v ++ t) (hv : v.fits) (hrv : rightV v = true) (hen : pos + (encV v).length ≤ 56 * ids.length) (hM : pos + (encV v).length ≤ M) :
    Calls Tryz.prog 150 #[.pointer (some ⟨c, 0, none⟩)] w (Got17 O (ownC c vi vr) w c p s ids B (pos + (encV v).length) J left (.returned (.tuple #[v.val, .int .i64 0])) (.returned (.tuple #[.agg #[.int .u8 0, .int .i64 0, .string ⟨#[]⟩], .int .i64 E]))) := by
  have hel := encV_le v
  have hep := encV_pos v
  have HP := Lib.hid h
  have HC := Lib.hid hC
  have HOX := Lib.hid hox
  have HFILL := Lib.hid (fun (W : World) (hx : Ext w W) => pFill17_any 166 valCut enters_val17 (fun u b W hb hl => pValCut17_any u b W hb hl) O c p pos (pos + (encV v).length) J left M E s ids B vi vr W (h.onlyS (OnlyS.of_ext (X := fun _ => False) hx) (fun _ _ h => h)) hok hp (hC.keep (OnlyS.of_ext (X := fun _ => False) hx) (fun _ h => h.elim)) hox hfew hpos (by omega) hen (by omega) hM (fun m h1 h2 => by
    rw [valCut_enc hv hrv t _ (56 * m - pos) (by rw [padB_rest, hat]), decide_eq_decide, padB_rest_len pos hp.len h2]
    omega))
  have HPG := Lib.hid hp
  have HAT := Lib.hid hat
  have HKV := Lib.hid (fun m => (show takeV (encV v ++ m) = some (v, m) by
    rw [takeV_enc v hv m]
    unfold keepV
    rw [if_pos hrv]))
  clear h hok hp hC hox hat
  go_enter Tryz.func150, Tryz.ntmps150
  go_wp2_with fail
  refine (HFILL.out _ (ext_new _ _)).mono ?_
  rintro e w1 ⟨O1, vi1, vr1, hp1, hd1, ⟨hle, rfl, hC1⟩ | ⟨hlt, rfl, is, rest, hC1⟩⟩
  · have HZ1 := Lib.hid (show Blk w1 w.heap.size [.int .u8 0, .int .i64 0, .string ⟨#[]⟩] 56 from (Blk.new w _ _).onlyS hd1.only (fun hb => by
      rcases hb with hb | hb
      · have := HP.out.lt _ hb
        omega
      · have := HC.out.lt hb
        omega))
    have HP1 := Lib.hid hp1
    have HD1 := Lib.hid hd1
    have hmn : (pos + (encV v).length + 55) / 56 ≤ ids.length := by have := HPG.out.jn; omega
    rw [padB_at HPG.out.len HAT.out hmn (by omega)] at hC1
    generalize hR : ((padB B ids.length).take (56 * ((pos + (encV v).length + 55) / 56))).drop (pos + (encV v).length) = R at hC1
    have hRl : R.length ≤ 1000 := by
      rw [← hR, padB_rest_len _ HPG.out.len hmn]
      omega
    have HR := Lib.hid hR
    clear hR
    obtain ⟨ra, rc, rfl, hr1, hr2⟩ := hC1.rest.shape
    rw [List.length_map, List.length_append] at hr1 hC1
    unfold maxLen at hr2
    rw [List.length_map, List.length_append] at HD1
    have HC1 := Lib.hid hC1
    have HTAKE := Lib.hid (TakeO_any _ (encV v ++ R) w1 hC1.rest.rd (by rw [List.length_append]; omega))
    have c2 := hC1.blk.cell 2 _ rfl
    have hsz1 : w.heap.size + 1 ≤ w1.heap.size := by
      have := HZ1.out.lt
      omega
    have HFIN := Lib.hid (fun (w2 w6 : World) (r : Value) (hx : Ext w1 w2) (hr : w2.ownsRow w1.heap.size 5 1 r R.length (R.map bv)) (ho : OnlyS (fun b => b = c ∨ b = w.heap.size) w2 w6) (hb : Blk w6 c [.pointer (some ⟨p, 0, none⟩), vi1, r, .int .i64 left, .int .i64 0] 150) => (show Got17 O (ownC c vi vr) w c p s ids B (pos + (encV v).length) J left (.returned (.tuple #[v.val, .int .i64 0])) (.returned (.tuple #[.agg #[.int .u8 0, .int .i64 0, .string ⟨#[]⟩], .int .i64 E])) (.returned (.tuple #[v.val, .int .i64 0])) w6 by
      have hO1 : ∀ b, O1 b → b ≠ c ∧ b ≠ w.heap.size := fun b hb => ⟨fun e => HD1.out.apart b hb (.inl e), fun e => by
        rcases HD1.out.os b hb with h1 | h1
        · have := HP.out.lt b h1
          omega
        · simp only [World.alloc, Array.size_push] at h1
          omega⟩
      have hV1 : ∀ k, vi1.ownBlock = some k → k ≠ w.heap.size := fun k hk e => by
        rcases HD1.out.xs k (.inr (.inl hk)) with h1 | h1
        · have := HC.out.lt h1
          omega
        · simp only [World.alloc, Array.size_push] at h1
          omega
      have hC2 := HC1.out.keep (OnlyS.of_ext (X := fun _ => False) hx) (fun _ h => h.elim)
      have hrb : ∀ k, r.ownBlock = some k → w1.heap.size ≤ k ∧ k < w2.heap.size := fun k hk => hr.lt k hk
      have hn : ∀ b, w.heap.size + 1 ≤ b → w.heap.size ≤ b := fun b h => by omega
      have hs1 : ∀ b, (w.alloc (.cells #[.int .u8 0, .int .i64 0, .string ⟨#[]⟩] 56)).heap.size ≤ b → w.heap.size ≤ b := fun b h => by
        simp only [World.alloc, Array.size_push] at h
        omega
      have hd : Duo O (ownC c vi vr) w O1 (ownC c vi1 r) w6 := by
        refine ⟨OnlyS.trans (OnlyS.trans (OnlyS.of_ext (ext_new w (.cells #[.int .u8 0, .int .i64 0, .string ⟨#[]⟩] 56))) HD1.out.only fun _ _ h => h) (OnlyS.trans (OnlyS.of_ext hx) ho fun _ _ h => h) fun i hi h => h.elim (fun e => .inr (.inl e)) (fun e => absurd e (by omega)), fun b hb => ?_, fun b hb => ?_, fun b hb hw => ?_⟩
        · exact (HD1.out.os b hb).imp id (hs1 b)
        · rcases hb with hb | hb | hb
          · exact .inl (.inl hb)
          · exact (HD1.out.xs b (.inr (.inl hb))).imp id (hs1 b)
          · exact .inr (by have := (hrb b hb).1; omega)
        · rcases hw with hw | hw | hw
          · exact HD1.out.apart b hb (.inl hw)
          · exact HD1.out.apart b hb (.inr (.inl hw))
          · have := HP1.out.lt b hb
            have := (hrb b hw).1
            omega
      refine ⟨O1, vi1, r, (HP1.out.onlyS (OnlyS.of_ext (X := fun _ => False) hx) (fun _ _ h => h)).onlyS ho (fun b hb e => e.elim (hO1 b hb).1 (hO1 b hb).2), hd, .inl ⟨hle, rfl, ⟨hb, hC2.ids.beside ho (fun k e => .inr fun e2 => e.elim (fun e => (hC2.ine k e2).1 e) (fun e => hV1 k e2 e)), fun k hk => ⟨(hC2.ine k hk).1, Nat.lt_of_lt_of_le (hC2.ine k hk).2.1 ho.size, fun e => ?_⟩, ?_, fun k hk => ⟨?_, Nat.lt_of_lt_of_le (hrb k hk).2 ho.size⟩, hC2.few⟩⟩⟩
      · have := (HC1.out.ine k hk).2.1
        have := (hrb k e).1
        omega
      · rw [HR.out]
        have hcl := HC1.out.blk.lt
        refine (OwnT.of_owns (owns_base hr (by omega : c + 1 ≤ w1.heap.size))).beside ho (fun k e => ?_)
        rcases e with e | e
        · exact .inl (by omega)
        · exact .inr fun e2 => by have := (hrb k e2).1; omega
      · have hcl := HC1.out.blk.lt
        have := (hrb k hk).1
        omega))
    clear hp1 hd1 hC1
    go_wp2_with fail
    refine HTAKE.out.mono ?_
    rintro e w2 ⟨⟨v2, m2, r2, htk, rfl, hr2⟩ | ⟨htk, -⟩, hx2⟩
    · rw [HKV.out R] at htk
      simp only [Option.some.injEq, Prod.mk.injEq] at htk
      obtain ⟨rfl, rfl⟩ := htk
      have HR2 := Lib.hid hr2
      have HX2 := Lib.hid hx2
      have HZ2 := Lib.hid (HZ1.out.ext hx2)
      have HB2 := Lib.hid (HC1.out.blk.ext hx2)
      obtain ⟨qa, qc, rfl, -, -⟩ := own_shapeP hr2
      clear hr2 hx2 c2
      obtain ⟨vk, vn, vs⟩ := v
      unfold V.val
      simp only
      have HB3 := Lib.hid ((HB2.out.ext (ext_new w2 (.cells #[.int .u8 vk, .int .i64 vn, .string ⟨vs.toArray⟩] 56))))
      have hc0 := HB2.out.lt
      have hc00 := HC.out.blk.lt
      have hszs : (w2.setCell ⟨c, 2, none⟩ (.slice qa R.length qc)).heap.size = w2.heap.size := by simp [World.setCell]
      have HZ4 := Lib.hid ((HZ2.out.beside (b' := c) (by omega) 2 (.slice qa R.length qc)).ext (ext_new _ (.cells #[.int .u8 vk, .int .i64 vn, .string ⟨vs.toArray⟩] 56)))
      have HB4 := Lib.hid ((HB2.out.set 2 (.slice qa R.length qc)).ext (ext_new _ (.cells #[.int .u8 vk, .int .i64 vn, .string ⟨vs.toArray⟩] 56)))
      have hn4 := Blk.new (w2.setCell ⟨c, 2, none⟩ (.slice qa R.length qc)) [.int .u8 vk, .int .i64 vn, .string ⟨vs.toArray⟩] 56
      rw [hszs] at hn4
      have HN4 := Lib.hid hn4
      clear hn4 hszs
      have z0 := HZ4.out.cell 0 _ rfl
      have z1 := HZ4.out.cell 1 _ rfl
      have z2 := HZ4.out.cell 2 _ rfl
      have zf := HZ4.out.free
      have y2 := HB3.out.cell 2 _ rfl
      have yf := HB3.out.free
      have n0 := HN4.out.cell 0 _ rfl
      have n1 := HN4.out.cell 1 _ rfl
      have n2 := HN4.out.cell 2 _ rfl
      go_wp2_with fail
      have HZ6 := ((HZ4.out.set 0 (.int .u8 vk)).set 1 (.int .i64 vn)).set 2 (.string ⟨vs.toArray⟩)
      have e0 := HZ6.cell 0 _ rfl
      have e1 := HZ6.cell 1 _ rfl
      have e2 := HZ6.cell 2 _ rfl
      refine bodyPost_ret (v := .tuple #[.agg #[.int .u8 vk, .int .i64 vn, .string ⟨vs.toArray⟩], .int .i64 0]) (by simp [results, Tryz.results150, go_sem, e0, e1, e2]) rfl ?_
      have hz6 : ∀ b : Nat, b = w.heap.size → b ≠ c := fun b e => by omega
      have hoz : OnlyS (fun b => b = c ∨ b = w.heap.size) w2 (((((w2.setCell ⟨c, 2, none⟩ (.slice qa R.length qc)).alloc (.cells #[.int .u8 vk, .int .i64 vn, .string ⟨vs.toArray⟩] 56)).setCell ⟨w.heap.size, 0, none⟩ (.int .u8 vk)).setCell ⟨w.heap.size, 1, none⟩ (.int .i64 vn)).setCell ⟨w.heap.size, 2, none⟩ (.string ⟨vs.toArray⟩)) :=
        (((((OnlyS.set0 c 2 w2 (.slice qa R.length qc)).mono fun _ _ h => .inl h).step (OnlyS.of_ext (ext_new _ _))).step ((OnlyS.set0 w.heap.size 0 _ (.int .u8 vk)).mono fun _ _ h => .inr h)).step ((OnlyS.set0 w.heap.size 1 _ (.int .i64 vn)).mono fun _ _ h => .inr h)).step ((OnlyS.set0 w.heap.size 2 _ (.string ⟨vs.toArray⟩)).mono fun _ _ h => .inr h)
      exact HFIN.out w2 _ (.slice qa R.length qc) HX2.out HR2.out hoz (((HB4.out.beside (b' := w.heap.size) (by omega) 0 _).beside (b' := w.heap.size) (by omega) 1 _).beside (b' := w.heap.size) (by omega) 2 _)
    · rw [HKV.out R] at htk
      cases htk
  · have HZ1 := Lib.hid (show Blk w1 w.heap.size [.int .u8 0, .int .i64 0, .string ⟨#[]⟩] 56 from (Blk.new w _ _).onlyS hd1.only (fun hb => by
      rcases hb with hb | hb
      · have := HP.out.lt _ hb
        omega
      · have := HC.out.lt hb
        omega))
    have HP1 := Lib.hid hp1
    have HD1 := Lib.hid hd1
    have HC1 := Lib.hid hC1
    have hE : E ≠ 0 := by
      have h1 := HPG.out.jn
      exact (HPG.out.bad (by omega) (by omega)).2
    have q1 : (E != 0) = true := by rw [bne_iff_ne]; exact hE
    have q2 : (E == 0) = false := beq_eq_false_iff_ne.2 hE
    have z0 := HZ1.out.cell 0 _ rfl
    have z1 := HZ1.out.cell 1 _ rfl
    have z2 := HZ1.out.cell 2 _ rfl
    have zf := HZ1.out.free
    clear hp1 hd1 hC1 hE
    go_wp2_with fail
    have HZ6 := ((HZ1.out.set 0 (.int .u8 0)).set 1 (.int .i64 0)).set 2 (.string ⟨#[]⟩)
    have e0 := HZ6.cell 0 _ rfl
    have e1 := HZ6.cell 1 _ rfl
    have e2 := HZ6.cell 2 _ rfl
    refine bodyPost_ret (v := .tuple #[.agg #[.int .u8 0, .int .i64 0, .string ⟨#[]⟩], .int .i64 E]) (by simp [results, Tryz.results150, go_sem, e0, e1, e2]) rfl ?_
    have hoz : OnlyS (fun b => b = w.heap.size) w1 (((w1.setCell ⟨w.heap.size, 0, none⟩ (.int .u8 0)).setCell ⟨w.heap.size, 1, none⟩ (.int .i64 0)).setCell ⟨w.heap.size, 2, none⟩ (.string ⟨#[]⟩)) := ((OnlyS.set0 w.heap.size 0 _ (.int .u8 0)).step (OnlyS.set0 w.heap.size 1 _ (.int .i64 0))).step (OnlyS.set0 w.heap.size 2 _ (.string ⟨#[]⟩))
    have hs1 : ∀ b, (w.alloc (.cells #[.int .u8 0, .int .i64 0, .string ⟨#[]⟩] 56)).heap.size ≤ b → w.heap.size + 1 ≤ b := fun b h => by
      simp only [World.alloc, Array.size_push] at h
      omega
    have hO1 : ∀ b, O1 b → b ≠ w.heap.size := fun b hb e => by
      rcases HD1.out.os b hb with h1 | h1
      · have := HP.out.lt b h1
        omega
      · have := hs1 b h1
        omega
    have hX1 : ∀ b, ownC c vi1 vr1 b → b ≠ w.heap.size := fun b hb e => by
      rcases HD1.out.xs b hb with h1 | h1
      · have := HC.out.lt h1
        omega
      · have := hs1 b h1
        omega
    refine ⟨O1, vi1, vr1, HP1.out.onlyS hoz hO1, ⟨OnlyS.trans (OnlyS.trans (OnlyS.of_ext (ext_new w (.cells #[.int .u8 0, .int .i64 0, .string ⟨#[]⟩] 56))) HD1.out.only fun _ _ h => h) hoz fun i hi h => absurd h (by omega), fun b hb => (HD1.out.os b hb).imp id fun h => Nat.le_of_succ_le (hs1 b h), fun b hb => (HD1.out.xs b hb).imp id fun h => Nat.le_of_succ_le (hs1 b h), HD1.out.apart⟩, .inr ⟨hlt, rfl, is, rest, HC1.out.keep hoz fun b e hb => hX1 b hb e⟩⟩
end Go.Proofs.YtaoegcakefodaaaGreat

namespace Go.Proofs.YtaoegcakefodaaaGreat
open Go.RowKit Go.BigFrame
theorem owns_onlyG {X : Nat → Prop} {base n size : Nat} {e : TypeId} {w w' : World} {v : Value} {xs : List Value} (h : w.ownsRow base e size v n xs) (ho : OnlyS X w w') (hx : ∀ k, v.ownBlock = some k → ¬ X k) : w'.ownsRow base e size v n xs := by
  obtain ⟨h1, h2⟩ := h
  refine ⟨h1, ?_⟩
  rcases h2 with h2 | ⟨g, cap, cur, rfl, h3, h4, h5⟩
  · exact .inl h2
  · exact .inr ⟨g, cap, cur, rfl, h3, by rw [ho.block g (Array.getElem?_eq_some_iff.1 h4).1 (hx g rfl)]; exact h4, h5⟩
theorem own_shapeG {base : Nat} {e : TypeId} {size : Nat} {w : World} {v : Value} {n : Nat} {xs : List Value} (h : w.ownsRow base e size v n xs) : ∃ a cap, v = .slice a n cap ∧ n ≤ cap ∧ cap ≤ maxLen := by
  rcases h.2 with ⟨rfl, rfl⟩ | ⟨g, cap, cur, rfl, h2, h3, h4, h5, _⟩
  · exact ⟨none, 0, rfl, Nat.le_refl _, by simp [maxLen]⟩
  · exact ⟨_, cap, rfl, h4, h5⟩
def GotRow (O X : Nat → Prop) (w : World) (c p : Nat) (s : St) (ids : List Nat) (B : List UInt8) (r : List V) (endp J left : Nat) (E : Int) (e : Ending) (w' : World) : Prop :=
  ∃ O' vi vr, PSto O' w' p s ∧ Duo O X w O' (ownC c vi vr) w' ∧
    ((endp ≤ 56 * J ∧ ∃ u, e = .returned (.tuple #[u, .int .i64 0]) ∧ CuM w' c p (ids.drop ((endp + 55) / 56)) (((padB B ids.length).take (56 * ((endp + 55) / 56))).drop endp) left vi vr ∧ w'.ownsRow w.heap.size 56 3 u r.length (r.flatMap V.cells) ∧ ∀ b, u.ownBlock = some b → ¬ O' b ∧ ¬ ownC c vi vr b) ∨
     (56 * J < endp ∧ e = .returned (.tuple #[.slice none 0 0, .int .i64 E]) ∧ ∃ is rest, CuM w' c p is rest left vi vr))
theorem row_at {B : List UInt8} {pos : Nat} {r : List V} {t : List UInt8} (h : B.drop pos = r.flatMap encV ++ t) (j : Nat) (hj : j < r.length) : B.drop (pos + ((r.take j).flatMap encV).length) = encV r[j] ++ ((r.drop (j + 1)).flatMap encV ++ t) := by
  have e : r.flatMap encV = (r.take j).flatMap encV ++ (encV r[j] ++ (r.drop (j + 1)).flatMap encV) := by
    conv => lhs; rw [← List.take_append_drop j r, List.drop_eq_getElem_cons hj]
    rw [List.flatMap_append, List.flatMap_cons]
  rw [← List.drop_drop, h, e, List.append_assoc, List.drop_left, List.append_assoc]
theorem vals_take_le (r : List V) (j : Nat) : ((r.take j).flatMap encV).length ≤ (r.flatMap encV).length := by
  conv => rhs; rw [← List.take_append_drop j r]
  rw [List.flatMap_append, List.length_append]
  omega
theorem vals_take_succ (r : List V) (j : Nat) (hj : j < r.length) : ((r.take (j + 1)).flatMap encV).length = ((r.take j).flatMap encV).length + (encV r[j]).length := by
  rw [List.take_succ_eq_append_getElem hj, List.flatMap_append, List.length_append]
  simp
set_option maxRecDepth 100000 in
set_option maxHeartbeats 4000000 in
theorem pRow17_any (O : Nat → Prop) (c p pos J left M : Nat) (r : List V) (E : Int) (s : St) (ids : List Nat) (B t : List UInt8) (vi vr : Value) (w : World) (h : PSto O w p s) (hok : okS s) (hp : PgT s ids B J M E)
    (hC : CuM w c p (ids.drop ((pos + 55) / 56)) (((padB B ids.length).take (56 * ((pos + 55) / 56))).drop pos) left vi vr) (hox : ∀ b, O b → ¬ ownC c vi vr b)
    (hfew : ∀ i ∈ ids, i ≤ 4096) (hpos : pos ≤ 56 * J) (hat : (padB B ids.length).drop pos = rowB r ++ t) (hv : ∀ v ∈ r, v.fits ∧ rightV v = true) (hrl : r.length ≤ 1000) (hen : pos + (rowB r).length ≤ 56 * ids.length) (hM : pos + (rowB r).length ≤ M) :
    Calls Tryz.prog 134 #[.pointer (some ⟨c, 0, none⟩)] w (GotRow O (ownC c vi vr) w c p s ids B r (pos + (rowB r).length) J left E) := by
  have hrb : (rowB r).length = (enc r.length).length + (r.flatMap encV).length := by unfold rowB; rw [List.length_append]
  have hat1 : (padB B ids.length).drop pos = enc r.length ++ (r.flatMap encV ++ t) := by rw [hat]; unfold rowB; rw [List.append_assoc]
  have HAT := Lib.hid (show (padB B ids.length).drop (pos + (enc r.length).length) = r.flatMap encV ++ t by rw [← List.drop_drop, hat1, List.drop_left])
  have HNUM := Lib.hid (pNumber17_any O c p pos J left M r.length E s ids B _ vi vr w h hok hp hC hox hfew hpos hat1 (by omega) (by omega) (by omega))
  have HPG := Lib.hid hp
  have HOK := Lib.hid hok
  have HFEW := Lib.hid hfew
  have HV := Lib.hid hv
  have HRB := Lib.hid hrb
  have HEN := Lib.hid hen
  obtain ⟨i3, hi3, hy0, hy1, hy2⟩ := info_parts Tryz.info_val
  obtain ⟨N, hN⟩ : ∃ N, r.length = N := ⟨_, rfl⟩
  have HN := Lib.hid hN
  rw [hN] at HNUM HAT hrl
  obtain ⟨EL, hEL⟩ : ∃ EL, (enc N).length = EL := ⟨_, rfl⟩
  have HEL := Lib.hid (show (rowB r).length = EL + (r.flatMap encV).length by rw [hrb, hN, hEL])
  rw [hEL] at HNUM HAT
  clear h hok hp hC hox hfew hat hat1 hv hrb hen hN hEL
  go_enter Tryz.func134, Tryz.ntmps134
  go_wp2_with fail
  refine HNUM.out.mono ?_
  rintro e w1 ⟨O1, vi1, vr1, hp1, hd1, ⟨hle, rfl, hC1⟩ | ⟨hlt, rfl, is, rest, hC1⟩⟩
  · have HP1 := Lib.hid hp1
    have HD1 := Lib.hid hd1
    have HC1 := Lib.hid hC1
    clear hp1 hd1 hC1
    go_wp2_with fail
    go_loopw [6, 19] (fun rv i wr => ∃ (j : Nat) (O' : Nat → Prop) (vi' vr' : Value), j ≤ N ∧ i = .int .u64 j ∧ pos + EL + ((r.take j).flatMap encV).length ≤ 56 * J ∧ PSto O' wr p s ∧
      CuM wr c p (ids.drop ((pos + EL + ((r.take j).flatMap encV).length + 55) / 56)) (((padB B ids.length).take (56 * ((pos + EL + ((r.take j).flatMap encV).length + 55) / 56))).drop (pos + EL + ((r.take j).flatMap encV).length)) left vi' vr' ∧
      Duo O (ownC c vi vr) w O' (ownC c vi' vr') wr ∧ wr.ownsRow w.heap.size 56 3 rv j ((r.take j).flatMap V.cells) ∧ ∀ b, rv.ownBlock = some b → ¬ O' b ∧ ¬ ownC c vi' vr' b) (fun _ i _ => N - (intOf i).toNat)
    case atStart =>
      have hx : Ext w1 (w1.alloc (.cells #[] 56)) := ext_new _ _
      refine ⟨0, O1, vi1, vr1, Nat.zero_le _, rfl, by simpa using hle, HP1.out.onlyS (OnlyS.of_ext (X := fun _ => False) hx) (fun _ _ h => h), ?_, HD1.out.trans (Duo.ext hx HD1.out.apart), ?_, fun b hb => ?_⟩
      · have h1 := HC1.out.keep (OnlyS.of_ext (X := fun _ => False) hx) (fun _ h => h.elim)
        simpa using h1
      · exact World.ownsRow_made w1 #[] 0 HD1.out.only.size (by simp [maxLen]) rfl
      · cases hb
        exact ⟨fun hO => Nat.lt_irrefl _ (HP1.out.lt _ hO), fun hw => Nat.lt_irrefl _ (HC1.out.lt hw)⟩
    case round =>
      obtain ⟨j, O2, vi2, vr2, hj, rfl, hpj, hp2, hC2, hd2, ho2, ha2⟩ := hrel
      have HP2 := Lib.hid hp2
      have HC2 := Lib.hid hC2
      have HD2 := Lib.hid hd2
      have HO2 := Lib.hid ho2
      have HA2 := Lib.hid ha2
      obtain ⟨qa, qc, rfl, -, -⟩ := own_shapeG ho2
      clear hp2 hC2 hd2 ho2 ha2
      by_cases hlt : j < N
      · have hjl : j < r.length := by have := HN.out; omega
        have hle2 := vals_take_le r (j + 1)
        have hsu := vals_take_succ r j hjl
        have hen2 := HEN.out
        have hel2 := HEL.out
        have HVAL := Lib.hid (pValue17_any O2 c p _ J left M r[j] E s ids B _ vi2 vr2 wr HP2.out HOK.out HPG.out HC2.out HD2.out.apart HFEW.out hpj (row_at HAT.out j hjl) (HV.out _ (List.getElem_mem hjl)).1 (HV.out _ (List.getElem_mem hjl)).2 (by omega) (by omega))
        have HTS := Lib.hid (List.take_succ_eq_append_getElem hjl)
        have HSU := Lib.hid hsu
        have HLE := Lib.hid (show pos + EL + ((r.take (j + 1)).flatMap encV).length ≤ pos + (rowB r).length by omega)
        generalize hvv : r[j] = v at HVAL HTS HSU
        have d1 : decide ((j : Int) < (N : Int)) = true := decide_eq_true (by omega)
        obtain ⟨vk, vn, vs⟩ := v
        unfold V.val at HVAL
        simp only at HVAL
        clear hle2 hsu hen2 hel2 hvv
        go_wp2_with fail
        refine HVAL.out.mono ?_
        rintro e w3 ⟨O3, vi3, vr3, hp3, hd3, ⟨hle3, rfl, hC3⟩ | ⟨hlt3, rfl, is, rest, hC3⟩⟩
        · have HP3 := Lib.hid hp3
          have HD3 := Lib.hid (HD2.out.trans hd3)
          have HC3 := Lib.hid hC3
          have HO3 := Lib.hid (owns_onlyG HO2.out hd3.only (fun k hk hX => hX.elim (HA2.out k hk).1 (HA2.out k hk).2))
          have HA3 := Lib.hid (show ∀ b, (Value.slice qa j qc).ownBlock = some b → ¬ O3 b ∧ ¬ ownC c vi3 vr3 b from fun b hb => by
            have hlt := (HO2.out.lt b hb).2
            refine ⟨fun h => ?_, fun h => ?_⟩
            · rcases hd3.os b h with h1 | h1
              · exact (HA2.out b hb).1 h1
              · omega
            · rcases hd3.xs b h with h1 | h1
              · exact (HA2.out b hb).2 h1
              · omega)
          have HO4 := Lib.hid (owns_onlyG HO3.out (OnlyS.of_ext (X := fun _ => False) (ext_new w3 (.cells #[.int .u8 vk, .int .i64 vn, .string ⟨vs.toArray⟩] 56))) (fun _ _ h => h))
          have HN4 := Lib.hid (Blk.new w3 [.int .u8 vk, .int .i64 vn, .string ⟨vs.toArray⟩] 56)
          have HSZ := Lib.hid (show w.heap.size ≤ (w3.alloc (.cells #[.int .u8 vk, .int .i64 vn, .string ⟨vs.toArray⟩] 56)).heap.size from Nat.le_trans HD3.out.only.size (ext_new w3 _).size)
          have n0 := HN4.out.cell 0 _ rfl
          have n1 := HN4.out.cell 1 _ rfl
          have n2 := HN4.out.cell 2 _ rfl
          clear hp3 hd3 hC3 HVAL
          go_wp2_with (at_builtin; go_must (refine wpList_append_one rfl (.tmp 29) (.tmp 31) 58 rfl w.heap.size 56 i3 _ 3 32 Tryz.underlying58 hi3 hy0 hy1 hy2 rfl (by decide) (by decide) _ _ _ [.int .u8 vk, .int .i64 vn, .string ⟨vs.toArray⟩] rfl HO4.out (by simp; rfl) rfl (by simp [Value.oneCell']) (by omega) HSZ.out ?_); intro v5 w5 h5a h5b h5c h5d; have HO5 := Lib.hid h5a; have HB5 := Lib.hid h5b; have HS5 := Lib.hid h5c; have HG5 := Lib.hid h5d; clear h5a h5b h5c h5d)
          go_roundw
          case rel =>
            have ho35 : OnlyS (fun b => (Value.slice qa j qc).ownBlock = some b) w3 w5 := (OnlyS.of_ext (ext_new w3 _)).step HS5.out
            have hsz : w3.heap.size ≤ (w3.alloc (.cells #[.int .u8 vk, .int .i64 vn, .string ⟨vs.toArray⟩] 56)).heap.size := (ext_new w3 _).size
            have hsu := HSU.out
            have hpe : pos + EL + ((r.take (j + 1)).flatMap encV).length = pos + EL + ((r.take j).flatMap encV).length + (encV ⟨vk, vn, vs⟩).length := by omega
            refine ⟨j + 1, O3, vi3, vr3, by omega, by go_num, by omega, HP3.out.onlyS ho35 (fun b hb e => (HA3.out b e).1 hb), ?_, ⟨OnlyS.trans HD3.out.only ho35 fun i hi e => absurd (HO2.out.lt i e).1 (by omega), HD3.out.os, HD3.out.xs, HD3.out.apart⟩, ?_, fun b hb => ?_⟩
            · rw [hpe]
              exact HC3.out.keep ho35 (fun b e hw => (HA3.out b e).2 hw)
            · rw [HTS.out, List.flatMap_append]
              exact HO5.out
            · rcases HG5.out with h1 | ⟨k, h1, h2⟩
              · exact HA3.out b (h1 ▸ hb)
              · rw [h1] at hb
                cases hb
                refine ⟨fun h => ?_, fun h => ?_⟩
                · have := HP3.out.lt b h
                  omega
                · have := HC3.out.lt h
                  omega
          case measure => simp [intOf]; omega
        · have HP3 := Lib.hid hp3
          have HD3 := Lib.hid (HD2.out.trans hd3)
          have HC3 := Lib.hid hC3
          have hE : E ≠ 0 := by
            have h1 := HPG.out.jn
            have h2 := HEN.out
            have h3 := HLE.out
            have h4 := HSU.out
            exact (HPG.out.bad (by omega) (by omega)).2
          have q1 : (E != 0) = true := by rw [bne_iff_ne]; exact hE
          have q2 : (E == 0) = false := beq_eq_false_iff_ne.2 hE
          clear hp3 hd3 hC3 hE HVAL
          go_wp2_with fail
          go_ret2
          have h3 := HLE.out
          have h4 := HSU.out
          have hx : Ext w3 (w3.alloc (.cells #[.int .u8 0, .int .i64 0, .string ⟨#[]⟩] 56)) := ext_new _ _
          exact ⟨O3, vi3, vr3, HP3.out.onlyS (OnlyS.of_ext (X := fun _ => False) hx) (fun _ _ h => h), HD3.out.trans (Duo.ext hx HD3.out.apart), .inr ⟨by omega, rfl, is, rest, HC3.out.keep (OnlyS.of_ext (X := fun _ => False) hx) (fun _ h => h.elim)⟩⟩
      · have d1 : decide ((j : Int) < (N : Int)) = false := decide_eq_false (by omega)
        have hjN : j = N := by omega
        have hALL : r.take j = r := List.take_of_length_le (by have := HN.out; omega)
        go_wp2_with fail
        go_ret2
        have hel2 := HEL.out
        rw [hALL] at hpj
        refine ⟨O2, vi2, vr2, HP2.out, HD2.out, .inl ⟨by omega, _, rfl, ?_, ?_, HA2.out⟩⟩
        · have h1 := HC2.out
          rw [hALL, show pos + EL + (r.flatMap encV).length = pos + (rowB r).length by omega] at h1
          exact h1
        · have h1 := HO2.out
          rw [hALL, hjN, ← HN.out] at h1
          rw [hjN, ← HN.out]
          exact h1
  · have HP1 := Lib.hid hp1
    have HD1 := Lib.hid hd1
    have HC1 := Lib.hid hC1
    have hE : E ≠ 0 := by
      have h1 := HPG.out.jn
      have h2 := HEN.out
      have h3 := HEL.out
      exact (HPG.out.bad (by omega) (by omega)).2
    have q1 : (E != 0) = true := by rw [bne_iff_ne]; exact hE
    have q2 : (E == 0) = false := beq_eq_false_iff_ne.2 hE
    clear hp1 hd1 hC1 hE
    go_wp2_with fail
    go_ret2
    refine ⟨O1, vi1, vr1, HP1.out, HD1.out, .inr ⟨?_, rfl, is, rest, HC1.out⟩⟩
    have h3 := HEL.out
    omega
end Go.Proofs.YtaoegcakefodaaaGreat

namespace Go.Proofs.YtaoegcakefodaaaGreat
open Go.RowKit Go.BigFrame
theorem notZero17_any (c : UInt8) (w : World) : Calls Tryz.prog 148 #[.int .u8 c.toNat] w fun e w' => e = .returned (.bool (!(c == 0))) ∧ w = w' := by
  by_cases h : c = 0
  · subst h
    go_enter Tryz.func148, Tryz.ntmps148
    go_wp2_with fail
    go_ret
    exact ⟨rfl, rfl⟩
  · have hb : (c == 0) = false := beq_eq_false_iff_ne.2 h
    rw [hb]
    obtain ⟨C, hC⟩ : ∃ C : Nat, C = c.toNat := ⟨_, rfl⟩
    have hz : ((C : Int) != 0) = true := by
      rw [bne_iff_ne]
      intro hh
      exact h (UInt8.toNat_inj.1 (by rw [← hC, show C = 0 by omega]; rfl))
    rw [← hC]
    clear h hb hC
    go_enter Tryz.func148, Tryz.ntmps148
    go_wp2_with fail
    go_ret
    exact ⟨rfl, rfl⟩
set_option maxRecDepth 100000 in
theorem indexEnd17_any (v : Value) (l : List UInt8) (w : World) (hr : Rd w v l) (hl : l.length ≤ 140737488355328) :
    Calls Tryz.prog 159 #[v, .func (.func 148) #[] #[]] w fun e w' => ∃ i : Int, e = .returned (.int .i64 i) ∧ -1 ≤ i ∧ i ≤ l.length ∧ decide (0 ≤ i) = !(l.all (· == 0)) ∧ w = w' := by
  obtain ⟨a, cap, rfl, h1, h2, ca⟩ := RdV.cellsAt hr
  rw [List.length_map] at h1 ⊢
  unfold maxLen at h2
  have CA := Lib.hid ca
  obtain ⟨L, hL⟩ : ∃ L, L = l.length := ⟨_, rfl⟩
  rw [← hL] at h1 hl ⊢
  have HL := Lib.hid hL
  clear ca hr hL
  go_enter Tryz.func159, Tryz.ntmps159
  go_wp2_with fail
  go_loopw [8] (fun i wr => ∃ j : Nat, j ≤ L ∧ i = .int .i64 j ∧ (l.take j).all (· == 0) = true ∧ w = wr) (fun i _ => L - (intOf i).toNat)
  case atStart => exact ⟨0, Nat.zero_le _, rfl, rfl, rfl⟩
  case round =>
    obtain ⟨j, hj, rfl, hall, rfl⟩ := hrel
    have HA := Lib.hid hall
    clear hall
    by_cases hlt : j < L
    · have hjl : j < l.length := by have := HL.out; omega
      obtain ⟨x, rfl, hc⟩ := CA.out j (bv l[j]) (by rw [List.getElem?_map, List.getElem?_eq_getElem hjl]; rfl)
      have HS := Lib.hid (show (l.take (j + 1)).all (· == 0) = ((l.take j).all (· == 0) && (l[j] == 0)) from by
        rw [List.take_succ_eq_append_getElem hjl, List.all_append]; simp)
      have HM := Lib.hid (List.getElem_mem hjl)
      unfold bv at hc
      have HN := Lib.hid (notZero17_any l[j] w)
      generalize l[j] = c at hc HS HN HM
      by_cases h0 : c = 0
      · subst h0
        simp only [beq_self_eq_true, Bool.not_true] at HN
        go_wp2_with fail
        refine HN.out.mono ?_
        rintro e w2 ⟨rfl, rfl⟩
        go_wp2_with fail
        go_roundw
        case rel => exact ⟨j + 1, by omega, by go_num, by rw [HS.out, HA.out]; rfl, trivial⟩
        case measure => simp [intOf]; omega
      · have hb : (c == 0) = false := beq_eq_false_iff_ne.2 h0
        rw [hb] at HN
        have HF := Lib.hid (show l.all (· == 0) = false from by
          rw [Bool.eq_false_iff]
          intro h
          exact h0 (by simpa using List.all_eq_true.1 h c HM.out))
        obtain ⟨C, hC⟩ : ∃ C : Nat, C = c.toNat := ⟨_, rfl⟩
        rw [← hC] at hc HN
        clear hb h0 hC
        go_wp2_with fail
        refine HN.out.mono ?_
        rintro e w2 ⟨rfl, rfl⟩
        go_wp2_with fail
        go_ret
        exact ⟨j, rfl, by omega, by omega, by rw [HF.out]; simp, rfl⟩
    · have HF := Lib.hid (show l.all (· == 0) = true from by
        have h := HA.out
        rw [List.take_of_length_le (by have := HL.out; omega)] at h
        exact h)
      go_wp2_with fail
      go_ret
      exact ⟨-1, rfl, by omega, by omega, by rw [HF.out]; rfl, rfl⟩
theorem containsEnd17_any (v : Value) (l : List UInt8) (w : World) (hr : Rd w v l) (hl : l.length ≤ 140737488355328) :
    Calls Tryz.prog 147 #[v, .func (.func 148) #[] #[]] w fun e w' => e = .returned (.bool (!(l.all (· == 0)))) ∧ w = w' := by
  have H := Lib.hid (indexEnd17_any v l w hr hl)
  obtain ⟨B, hB⟩ : ∃ B, B = !(l.all (· == 0)) := ⟨_, rfl⟩
  rw [← hB] at H ⊢
  clear hB hr
  go_enter Tryz.func147, Tryz.ntmps147
  go_wp2_with fail
  refine H.out.mono ?_
  rintro e w2 ⟨i, rfl, h1, h2, h3, rfl⟩
  go_wp2_with fail
  go_ret
  exact ⟨rfl, rfl⟩
set_option maxRecDepth 100000 in
theorem pEnd17_any (c : Nat) (o : Option Addr) (vi vr : Value) (R : List UInt8) (a : Option Addr) (cap : Nat) (l e : Int) (w : World) (h : Blk w c [.pointer o, vi, vr, .int .i64 l, .int .i64 e] 150) (hvi : vi = .slice a 0 cap) (hvr : Rd w vr R) (hl : R.length ≤ 140737488355328) (hz : R.all (· == 0) = true) :
    Calls Tryz.prog 133 #[.pointer (some ⟨c, 0, none⟩)] w fun e w' => e = .returned (.int .i64 0) ∧ w = w' := by
  subst hvi
  have HC := Lib.hid (containsEnd17_any vr R w hvr hl)
  rw [hz] at HC
  obtain ⟨ra, rc, rfl, -, -⟩ := hvr.shape
  have c1 := h.cell 1 _ rfl
  have c2 := h.cell 2 _ rfl
  clear h hvr hz hl
  go_enter Tryz.func133, Tryz.ntmps133
  go_wp2_with fail
  refine HC.out.mono ?_
  rintro e w' ⟨rfl, rfl⟩
  go_wp2_with fail
  go_ret
  exact ⟨rfl, rfl⟩
def Cur (C : Nat → Prop) (w : World) (c _f p : Nat) (ids : List Nat) (x : List (List V)) (k : Nat) : Prop :=
  k ≤ x.length ∧ ∃ vi vr, C = ownC c vi vr ∧ (CuM w c p (ids.drop (((rowsB (x.take k)).length + 55) / 56)) (((padB (rowsB x) ids.length).take (56 * (((rowsB (x.take k)).length + 55) / 56))).drop (rowsB (x.take k)).length) (x.length - k) vi vr ∨
    (x = [] ∧ vr = .slice none 0 0 ∧ (∃ a cap, vi = .slice a 0 cap ∧ ∀ b, vi.ownBlock = some b → b < w.heap.size) ∧ Blk w c [.pointer none, vi, vr, .int .i64 0, .int .i64 0] 150))
theorem Cur.lt {C : Nat → Prop} {w : World} {c f p : Nat} {ids : List Nat} {x : List (List V)} {k : Nat} (h : Cur C w c f p ids x k) {b : Nat} (hb : C b) : b < w.heap.size := by
  obtain ⟨-, vi, vr, rfl, h | ⟨-, rfl, ⟨a, cap, -, h1⟩, h⟩⟩ := h
  · exact h.lt hb
  · rcases hb with rfl | hb | hb
    · exact h.lt
    · exact h1 b hb
    · cases hb
theorem Cur.keep {C X : Nat → Prop} {w w' : World} {c f p : Nat} {ids : List Nat} {x : List (List V)} {k : Nat} (h : Cur C w c f p ids x k) (hw : OnlyS X w w') (h1 : ∀ b, X b → ¬ C b) : Cur C w' c f p ids x k := by
  obtain ⟨hk, vi, vr, rfl, h | ⟨hx, hvr, ⟨a, cap, h2, h3⟩, h⟩⟩ := h
  · exact ⟨hk, vi, vr, rfl, .inl (h.keep hw h1)⟩
  · exact ⟨hk, vi, vr, rfl, .inr ⟨hx, hvr, ⟨a, cap, h2, fun b hb => Nat.lt_of_lt_of_le (h3 b hb) hw.size⟩, h.onlyS hw (fun hX => h1 c hX (.inl rfl))⟩⟩
def ReadTo (s : St) (ids : List Nat) (b : List UInt8) (J : Nat) : Prop := J ≤ ids.length ∧ ∀ j, (h : j < ids.length) → j < J → readS s (ids[j] : Int) = (fill ((b.drop (56 * j)).take 56), 0)
set_option maxRecDepth 100000 in
set_option maxHeartbeats 1000000 in
theorem pOpen17_any (F : Nat → Prop) (f p : Nat) (ids : List Nat) (x : List (List V)) (w : World) (h : Fil F w f p ids x.length) :
    Calls Tryz.prog 86 #[.pointer (some ⟨f, 0, none⟩)] w fun e w' => (∃ c C, e = .returned (.pointer (some ⟨c, 0, none⟩)) ∧ Cur C w' c f p ids x 0 ∧ ∀ b, C b → w.heap.size ≤ b) ∧ Ext w w' := by
  obtain ⟨vi, hT, rfl⟩ := h
  obtain ⟨o, hb, ho⟩ := hT.blk
  have HB := Lib.hid hb
  have HO := Lib.hid ho
  have HFEW := Lib.hid hT.few
  have HPG := Lib.hid (pPagesO17_any f p ids x.length vi w.drew ⟨⟨o, hb.ext (Ext.drew w), ho⟩, owns_extS hT.row (Ext.drew w), hT.few, hT.ne⟩)
  have HBZ := Lib.hid (fun z : Later Ext w.drew => (HB.out.ext (Ext.drew w)).ext z.ext)
  have a0 : ∀ z : Later Ext w.drew, z.val.cell? ⟨f, 0, none⟩ = some (.pointer o) := fun z => (HBZ.out z).cell 0 _ rfl
  have a2 : ∀ z : Later Ext w.drew, z.val.cell? ⟨f, 2, none⟩ = some (.int .i64 (x.length : Int)) := fun z => (HBZ.out z).cell 2 _ rfl
  have HXD := Lib.hid (Ext.drew w)
  clear hT hb ho
  go_enter Tryz.func86, Tryz.ntmps86
  go_wp2_with fail
  refine wp_region_segs Ext Ext.keeps [([0, 1, 2, 3, 4, 6, 7, 8, 9], some 5), ([10], some 11), ([12], none)] (by kernel_rfl) (by kernel_rfl) (fun c a a' w e h => (by exact ⟨e ▸ h.1, h.2⟩)) ?_
  simp only [pickSegs, pickOps, List.map_cons, List.map_nil, Option.map_some, Option.map_none, Option.getD_some, List.getElem?_toArray, List.getElem?_cons_zero, List.getElem?_cons_succ]
  refine wpSegs_some fun K hK => ?_
  repeat go_big_quiet_step (fail)
  refine wpQuiet_nil ?_
  clear a0 a2 HBZ
  go_wp2_with fail
  refine HPG.out.mono ?_
  rintro e w2 ⟨v, rfl, hv, hx⟩
  have HV := Lib.hid hv
  have HX := Lib.hid (show Ext w.drew w2 from hx)
  obtain ⟨va, vc, rfl, -, -⟩ := own_shapeP hv
  clear hv hx
  go_wp2_with fail
  refine ⟨HX.out, hK _ _ ?_⟩
  clear hK K
  refine wpSegs_some fun K hK => ?_
  repeat go_big_quiet_step (fail)
  refine wpQuiet_nil ?_
  go_wp2_with fail
  refine ⟨ext_new _ _, hK _ _ ?_⟩
  clear hK K
  refine wpSegs_none ?_
  repeat go_big_quiet_step (fail)
  refine wpQuiet_nil (wpSegs_nil ?_)
  go_wp2_with fail
  go_ret
  have hw : Ext w w2 := Ext.trans HXD.out HX.out
  have hx3 : Ext w2 (w2.alloc (.cells #[.pointer o, .slice va (ivs ids).length vc, .slice none 0 0, .int .i64 (x.length : Int), .int .i64 0] 150)) := ext_new _ _
  have hlt : ∀ b, (Value.slice va (ivs ids).length vc).ownBlock = some b → w.heap.size ≤ b ∧ b < w2.heap.size := fun b hb => HV.out.lt b hb
  have hsz := hx3.size
  have hsz0 := hw.size
  refine ⟨⟨w2.heap.size, ownC w2.heap.size (.slice va (ivs ids).length vc) (.slice none 0 0), rfl, ⟨Nat.zero_le _, _, _, rfl, ?_⟩, fun b hb => ?_⟩, Ext.trans hw hx3⟩
  · rcases HO.out with rfl | ⟨rfl, rfl, hx0, -⟩
    · left
      have hP : (rowsB (x.take 0)).length = 0 := rfl
      rw [hP, Nat.sub_zero]
      refine ⟨Blk.new w2 _ _, ?_, fun k hk => ⟨fun e => by have := (hlt k hk).2; omega, Nat.lt_of_lt_of_le (hlt k hk).2 hsz, fun e => by cases e⟩, ?_, fun k hk => (by cases hk), fun i hi => HFEW.out.2.1 i (List.mem_of_mem_drop hi)⟩
      · exact OwnT.of_owns (owns_base (owns_extS HV.out hx3) (Nat.zero_le _))
      · have e : ((padB (rowsB x) ids.length).take (56 * ((0 + 55) / 56))).drop 0 = [] := by simp
        rw [e]
        exact OwnT.nil _ _ _
    · right
      have hx1 : x = [] := List.length_eq_zero_iff.1 hx0
      refine ⟨hx1, rfl, ⟨_, _, rfl, fun b hb => Nat.lt_of_lt_of_le (hlt b hb).2 hsz⟩, ?_⟩
      have h1 := Blk.new w2 [.pointer none, .slice va (ivs ([] : List Nat)).length vc, .slice none 0 0, .int .i64 (x.length : Int), .int .i64 0] 150
      rw [hx0] at h1 ⊢
      exact h1
  · rcases hb with rfl | hb | hb
    · exact hsz0
    · exact (hlt b hb).1
    · cases hb
theorem rowsB_at (x : List (List V)) (n k : Nat) (hk : k < x.length) : (padB (rowsB x) n).drop (rowsB (x.take k)).length = rowB x[k] ++ (rowsB (x.drop (k + 1)) ++ zeros (56 * n - (rowsB x).length)) := by
  have e : rowsB x = rowsB (x.take k) ++ (rowB x[k] ++ rowsB (x.drop (k + 1))) := by
    conv => lhs; rw [← List.take_append_drop k x, List.drop_eq_getElem_cons hk, rowsB_append]
    congr 1
  unfold padB
  conv => lhs; rw [e]
  rw [List.append_assoc, List.drop_left, List.append_assoc, ← e]
theorem rowsB_next (x : List (List V)) (k : Nat) (hk : k < x.length) : (rowsB (x.take (k + 1))).length = (rowsB (x.take k)).length + (rowB x[k]).length := by
  rw [List.take_succ_eq_append_getElem hk, rowsB_snoc, List.length_append]
theorem rowsB_most (x : List (List V)) (k : Nat) : (rowsB (x.take k)).length ≤ (rowsB x).length := by
  have h : rowsB x = rowsB (x.take k) ++ rowsB (x.drop k) := by rw [← rowsB_append, List.take_append_drop]
  rw [h, List.length_append]
  omega
theorem need_bytes {ids : List Nat} {b : List UInt8} (hn : (ids.length : Int) = needS (b.length : Int)) : b.length ≤ 56 * ids.length ∧ ids.length = (b.length + 55) / 56 := by
  have h1 := needS_nat b.length
  rw [← hn, Int.toNat_natCast] at h1
  omega
theorem may_right {r : List V} (h : mayR r = 0) : ∀ v ∈ r, rightV v = true := by
  unfold mayR at h
  split at h
  · cases h
  · split at h
    · rename_i h2
      exact List.all_eq_true.1 h2
    · cases h
theorem FitB.bytes {x : List (List V)} (h : FitB x) : (rowsB x).length ≤ 900000000 := by
  have h1 := rowsB_le (rows := x) (fun r hr => (h.2 r hr).1)
  have := Nat.mul_le_mul_left 900000 h.1
  omega
set_option maxRecDepth 100000 in
set_option maxHeartbeats 4000000 in
theorem pNextG17_any (O : Nat → Prop) (s : St) (c p J k : Nat) (E : Int) (ids : List Nat) (x : List (List V)) (vi vr : Value) (w : World) (h : PSto O w p s) (hok : okS s) (hk : k < x.length)
    (hC : CuM w c p (ids.drop (((rowsB (x.take k)).length + 55) / 56)) (((padB (rowsB x) ids.length).take (56 * (((rowsB (x.take k)).length + 55) / 56))).drop (rowsB (x.take k)).length) (x.length - k) vi vr) (hoc : ∀ b, O b → ¬ ownC c vi vr b)
    (hfew : ∀ i ∈ ids, i ≤ 4096) (hxl : x.length ≤ 1000) (hfit : ∀ v ∈ x[k], v.fits ∧ rightV v = true) (hrl : x[k].length ≤ 1000) (hpos : (rowsB (x.take k)).length ≤ 56 * J)
    (hp : PgT s ids (rowsB x) J (rowsB (x.take (k + 1))).length E) (hen : (rowsB (x.take (k + 1))).length ≤ 56 * ids.length) :
    Calls Tryz.prog 110 #[.pointer (some ⟨c, 0, none⟩)] w fun e w' => ∃ O' vi' vr', PSto O' w' p s ∧ Duo O (ownC c vi vr) w O' (ownC c vi' vr') w' ∧
      (((rowsB (x.take (k + 1))).length ≤ 56 * J ∧ ∃ v, e = .returned (.tuple #[v, .bool true, .int .i64 0]) ∧ w'.ownsRow w.heap.size 56 3 v x[k].length (x[k].flatMap V.cells) ∧ (∀ b, v.ownBlock = some b → ¬ O' b ∧ ¬ ownC c vi' vr' b) ∧
        CuM w' c p (ids.drop (((rowsB (x.take (k + 1))).length + 55) / 56)) (((padB (rowsB x) ids.length).take (56 * (((rowsB (x.take (k + 1))).length + 55) / 56))).drop (rowsB (x.take (k + 1))).length) (x.length - (k + 1)) vi' vr') ∨
       (56 * J < (rowsB (x.take (k + 1))).length ∧ e = .returned (.tuple #[.slice none 0 0, .bool false, .int .i64 E]) ∧ ∃ l, Blk w' c [.pointer (some ⟨p, 0, none⟩), vi', vr', .int .i64 l, .int .i64 E] 150)) := by
  have hnx := rowsB_next x k hk
  have HROW := Lib.hid (pRow17_any O c p (rowsB (x.take k)).length J (x.length - k) (rowsB (x.take (k + 1))).length x[k] E s ids (rowsB x) _ vi vr w h hok hp hC hoc hfew hpos (rowsB_at x ids.length k hk) hfit hrl (by omega) (by omega))
  rw [← hnx] at HROW
  have HP := Lib.hid hp
  obtain ⟨L, hL⟩ : ∃ L, x.length - k = L := ⟨_, rfl⟩
  have hL1 : x.length - (k + 1) = L - 1 := by omega
  have hL0 : 0 < L := by omega
  have hL2 : L ≤ 1000 := by omega
  rw [hL] at HROW hC
  rw [hL1]
  have c3 := hC.blk.cell 3 _ rfl
  have c4 := hC.blk.cell 4 _ rfl
  have q0 : ((L : Int) == 0) = false := beq_eq_false_iff_ne.2 (by omega)
  generalize (rowsB (x.take (k + 1))).length = EN at HROW hp HP hen hnx ⊢
  have HJE := Lib.hid (show 56 * J < EN → E ≠ 0 from fun h => (HP.out.bad h (by omega)).2)
  clear h hok hC hoc hfew hfit hpos hp hnx hL hL1 HP
  go_enter Tryz.func110, Tryz.ntmps110
  go_wp2_with fail
  refine HROW.out.mono ?_
  rintro e w1 ⟨O1, vi1, vr1, hp1, hd1, ⟨hle, u, rfl, hC1, hu, hua⟩ | ⟨hlt, rfl, is, rest, hC1⟩⟩
  · have HP1 := Lib.hid hp1
    have HD1 := Lib.hid hd1
    have HC1 := Lib.hid hC1
    have HU := Lib.hid hu
    have HUA := Lib.hid hua
    obtain ⟨ua, uc, rfl, -, -⟩ := own_shapeG hu
    have y3 := hC1.blk.cell 3 _ rfl
    have y4 := hC1.blk.cell 4 _ rfl
    have fz := hC1.blk.free
    clear hp1 hd1 hC1 hu hua c3 c4
    go_wp2_with fail
    refine bodyPost_ret (v := .tuple #[.slice ua x[k].length uc, .bool true, .int .i64 0]) (by simp [results, Tryz.results110, go_sem]) rfl ?_
    have hs := OnlyS.set0 c 3 w1 (.int .i64 ((L : Int) - 1))
    have hC := HC1.out
    have hcb : ∀ b, b = c → ownC c vi1 vr1 b := fun b e => .inl e
    have hb3 : Blk (w1.setCell ⟨c, 3, none⟩ (.int .i64 ((L : Int) - 1))) c [.pointer (some ⟨p, 0, none⟩), vi1, vr1, .int .i64 ((L - 1 : Nat) : Int), .int .i64 0] 150 := by
      have h1 := hC.blk.set 3 (.int .i64 ((L : Int) - 1))
      rw [show ((L - 1 : Nat) : Int) = (L : Int) - 1 by omega]
      exact h1
    refine ⟨O1, vi1, vr1, HP1.out.onlyS hs (fun b hb e => HD1.out.apart b hb (hcb b e)), HD1.out.trans ⟨hs.mono fun b _ hb => .inr (hcb b hb), fun _ hb => .inl hb, fun _ hb => .inl hb, HD1.out.apart⟩, .inl ⟨hle, _, rfl, owns_onlyG HU.out hs (fun b hb e => (HUA.out b hb).2 (hcb b e)), HUA.out, hb3, hC.ids.beside hs (fun b e => .inr fun e2 => (hC.ine b e2).1 e), fun b hb => ⟨(hC.ine b hb).1, Nat.lt_of_lt_of_le (hC.ine b hb).2.1 hs.size, (hC.ine b hb).2.2⟩, hC.rest.beside hs (fun b e => .inl (by omega)), fun b hb => ⟨(hC.rin b hb).1, Nat.lt_of_lt_of_le (hC.rin b hb).2 hs.size⟩, hC.few⟩⟩
  · have HP1 := Lib.hid hp1
    have HD1 := Lib.hid hd1
    have HC1 := Lib.hid hC1
    have hE := HJE.out hlt
    have q1 : (E != 0) = true := by rw [bne_iff_ne]; exact hE
    have q2 : (E == 0) = false := beq_eq_false_iff_ne.2 hE
    have y4 := hC1.blk.cell 4 _ rfl
    have fz := hC1.blk.free
    clear hp1 hd1 hC1 hE c3 c4
    go_wp2_with fail
    refine bodyPost_ret (v := .tuple #[.slice none 0 0, .bool false, .int .i64 E]) (by simp [results, Tryz.results110, go_sem]) rfl ?_
    have hs := OnlyS.set0 c 4 w1 (.int .i64 E)
    exact ⟨O1, vi1, vr1, HP1.out.onlyS hs (fun b hb e => HD1.out.apart b hb (.inl e)), HD1.out.trans ⟨hs.mono fun b _ hb => .inr (.inl hb), fun _ hb => .inl hb, fun _ hb => .inl hb, HD1.out.apart⟩, .inr ⟨hlt, rfl, _, HC1.out.blk.set 4 _⟩⟩
set_option maxRecDepth 100000 in
set_option maxHeartbeats 1000000 in
theorem pNextZ17_any (c : Nat) (o : Option Addr) (vi vr : Value) (R : List UInt8) (a : Option Addr) (cap : Nat) (w : World) (h : Blk w c [.pointer o, vi, vr, .int .i64 0, .int .i64 0] 150) (hvi : vi = .slice a 0 cap) (hvr : Rd w vr R) (hl : R.length ≤ 140737488355328) (hz : R.all (· == 0) = true) :
    Calls Tryz.prog 110 #[.pointer (some ⟨c, 0, none⟩)] w fun e w' => e = .returned (.tuple #[.slice none 0 0, .bool false, .int .i64 0]) ∧ OnlyS (fun b => b = c) w w' ∧ Blk w' c [.pointer o, vi, vr, .int .i64 0, .int .i64 0] 150 := by
  have HEND := Lib.hid (pEnd17_any c o vi vr R a cap 0 0 w h hvi hvr hl hz)
  have HB := Lib.hid h
  have HB2 := Lib.hid (show Blk (w.setCell ⟨c, 4, none⟩ (.int .i64 0)) c [.pointer o, vi, vr, .int .i64 0, .int .i64 0] 150 from h.set 4 (.int .i64 0))
  have c3 := h.cell 3 _ rfl
  have c4 := h.cell 4 _ rfl
  have fz := h.free
  have d3 := HB2.out.cell 3 _ rfl
  have d4 := HB2.out.cell 4 _ rfl
  clear h hvi hvr hl hz
  go_enter Tryz.func110, Tryz.ntmps110
  go_wp2_with fail
  refine HEND.out.mono ?_
  rintro e w' ⟨rfl, rfl⟩
  go_wp2_with fail
  have HBZ := Lib.hid (fun z : Later Ext (w.setCell ⟨c, 4, none⟩ (.int .i64 0)).drew => (HB2.out.ext (Ext.drew _)).ext z.ext)
  have a4 : ∀ z : Later Ext (w.setCell ⟨c, 4, none⟩ (.int .i64 0)).drew, z.val.cell? ⟨c, 4, none⟩ = some (.int .i64 0) := fun z => (HBZ.out z).cell 4 _ rfl
  refine wp_region_segs Ext Ext.keeps [([0, 1, 2, 3, 4, 5, 6], none)] (by kernel_rfl) (by kernel_rfl) (fun c a a' w e h => (by exact ⟨e ▸ h.1, h.2⟩)) ?_
  simp only [pickSegs, pickOps, List.map_cons, List.map_nil, Option.map_none, Option.getD_some, List.getElem?_toArray, List.getElem?_cons_zero, List.getElem?_cons_succ]
  refine wpSegs_none ?_
  repeat go_big_quiet_step (fail)
  refine wpQuiet_nil (wpSegs_nil ?_)
  clear a4
  go_wp2_with fail
  refine bodyPost_ret (v := .tuple #[.slice none 0 0, .bool false, .int .i64 0]) (by simp [results, Tryz.results110, go_sem]) rfl ?_
  exact ⟨rfl, (OnlyS.set0 c 4 w (.int .i64 0)).step (OnlyS.of_ext (Ext.drew _)), HB2.out.ext (Ext.drew _)⟩
theorem pNextRow17_any (O F C : Nat → Prop) (s : St) (c f p J k : Nat) (ids : List Nat) (x : List (List V)) (w : World) (h : PSto O w p s) (hok : okS s) (hF : Fil F w f p ids x.length) (hC : Cur C w c f p ids x k) (hoc : ∀ b, O b → ¬ C b)
    (hfit : FitB x) (hm : ∀ r ∈ x, mayR r = 0) (hn : (ids.length : Int) = needS ((rowsB x).length : Int)) (hJ : ReadTo s ids (rowsB x) J) (hk : k < x.length) (he : (rowsB (x.take (k + 1))).length ≤ 56 * J) :
    Calls Tryz.prog 110 #[.pointer (some ⟨c, 0, none⟩)] w fun e w' => ∃ v O' C', e = .returned (.tuple #[v, .bool true, .int .i64 0]) ∧ w'.ownsRow w.heap.size 56 3 v x[k].length (x[k].flatMap V.cells) ∧
      PSto O' w' p s ∧ Cur C' w' c f p ids x (k + 1) ∧ OnlyS (fun b => O b ∨ C b) w w' ∧ (∀ b, O' b → O b ∨ w.heap.size ≤ b) ∧ (∀ b, C' b → C b ∨ w.heap.size ≤ b) ∧ (∀ b, w.heap.size ≤ b → O' b → ¬ C' b) ∧ ∀ b, v.ownBlock = some b → ¬ O' b ∧ ¬ C' b := by
  obtain ⟨vf, hFT, -⟩ := hF
  obtain ⟨-, vi, vr, rfl, hC | ⟨rfl, -⟩⟩ := hC
  · obtain ⟨hb1, hb2⟩ := need_bytes hn
    have hbm := hfit.bytes
    have hfr := hfit.2 x[k] (List.getElem_mem hk)
    have hnx := rowsB_next x k hk
    have hmost := rowsB_most x (k + 1)
    refine (pNextG17_any O s c p J k 0 ids x vi vr w h hok hk hC hoc hFT.few.2.1 hfit.1 (fun v hv => ⟨(hfr.2 v hv).1, may_right (hm _ (List.getElem_mem hk)) v hv⟩) (by have := hfr.1; omega) (by omega) ⟨hb1, hJ.1, by omega, fun j h1 h2 => hJ.2 j h1 h2, fun h1 => absurd h1 (by omega)⟩ (by omega)).mono ?_
    rintro e w' ⟨O', vi', vr', h1, h2, ⟨-, v, rfl, h3, h4, h5⟩ | ⟨h3, -⟩⟩
    · exact ⟨v, O', _, rfl, h3, h1, ⟨hk, vi', vr', rfl, .inl h5⟩, h2.only, h2.os, h2.xs, fun b _ => h2.apart b, h4⟩
    · omega
  · simp at hk
theorem pNextEnd17_any (O F C : Nat → Prop) (s : St) (c f p : Nat) (ids : List Nat) (x : List (List V)) (w : World) (h : PSto O w p s) (_hok : okS s) (_hF : Fil F w f p ids x.length) (hC : Cur C w c f p ids x x.length) (hoc : ∀ b, O b → ¬ C b)
    (_hfit : FitB x) (_hm : ∀ r ∈ x, mayR r = 0) (hn : (ids.length : Int) = needS ((rowsB x).length : Int)) (_hJ : ReadTo s ids (rowsB x) ids.length) :
    Calls Tryz.prog 110 #[.pointer (some ⟨c, 0, none⟩)] w fun e w' => ∃ v O' C', e = .returned (.tuple #[v, .bool false, .int .i64 0]) ∧ RdVals w' v [] ∧
      PSto O' w' p s ∧ Cur C' w' c f p ids x x.length ∧ OnlyS (fun b => O b ∨ C b) w w' ∧ (∀ b, O' b → O b ∨ w.heap.size ≤ b) ∧ (∀ b, C' b → C b ∨ w.heap.size ≤ b) ∧ (∀ b, w.heap.size ≤ b → O' b → ¬ C' b) := by
  obtain ⟨hk, vi, vr, rfl, hC | ⟨rfl, rfl, ⟨a, cap, rfl, hv⟩, hb⟩⟩ := hC
  · obtain ⟨hb1, hb2⟩ := need_bytes hn
    have hC0 := hC
    rw [List.take_length, ← hb2, List.drop_length, Nat.sub_self] at hC
    obtain ⟨ia, ic, hie, -, -⟩ := hC.ids.shape
    have hrl := padB_rest_len (n := ids.length) (m := ids.length) (rowsB x).length hb1 (Nat.le_refl _)
    have hz : (((padB (rowsB x) ids.length).take (56 * ids.length)).drop (rowsB x).length).all (· == 0) = true := by
      rw [List.take_of_length_le (Nat.le_of_eq (padB_length hb1))]
      unfold padB
      rw [List.drop_left]
      unfold zeros
      rw [List.all_eq_true]
      intro b hb
      rw [List.eq_of_mem_replicate hb]
      rfl
    refine (pNextZ17_any c (some ⟨p, 0, none⟩) vi vr _ ia ic w hC.blk hie hC.rest.rd (by rw [hrl]; omega) hz).mono ?_
    rintro e w' ⟨rfl, ho, hb⟩
    have hcc : ∀ b, b = c → ownC c vi vr b := fun b e => .inl e
    refine ⟨_, O, _, rfl, RdVals.nil _, h.onlyS ho (fun b hO e => hoc b hO (hcc b e)), ⟨hk, vi, vr, rfl, .inl ⟨?_, hC0.ids.beside ho (fun b e => .inr fun e2 => (hC0.ine b e2).1 e), fun b hb => ⟨(hC0.ine b hb).1, Nat.lt_of_lt_of_le (hC0.ine b hb).2.1 ho.size, (hC0.ine b hb).2.2⟩, hC0.rest.beside ho (fun b e => .inl (by omega)), fun b hb => ⟨(hC0.rin b hb).1, Nat.lt_of_lt_of_le (hC0.rin b hb).2 ho.size⟩, hC0.few⟩⟩, ho.mono fun b _ e => .inr (hcc b e), fun _ hb => .inl hb, fun _ hb => .inl hb, fun b _ => hoc b⟩
    rw [Nat.sub_self]
    exact hb
  · refine (pNextZ17_any c none _ _ [] a cap w hb rfl (Rd.nil w) (by simp) rfl).mono ?_
    rintro e w' ⟨rfl, ho, hb'⟩
    have hcc : ∀ b, b = c → ownC c (.slice a 0 cap) (.slice none 0 0) b := fun b e => .inl e
    exact ⟨_, O, _, rfl, RdVals.nil _, h.onlyS ho (fun b hO e => hoc b hO (hcc b e)), ⟨hk, _, _, rfl, .inr ⟨rfl, rfl, ⟨a, cap, rfl, fun b hb => Nat.lt_of_lt_of_le (hv b hb) ho.size⟩, hb'⟩⟩, ho.mono fun b _ e => .inr (hcc b e), fun _ hb => .inl hb, fun _ hb => .inl hb, fun b _ => hoc b⟩
end Go.Proofs.YtaoegcakefodaaaGreat

