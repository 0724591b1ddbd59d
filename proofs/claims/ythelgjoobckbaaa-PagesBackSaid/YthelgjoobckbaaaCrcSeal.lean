/-
  The program's contracts: Seal, Open.
-/
import Derived.Test.YthelgjoobckbaaaCrcProg
import Derived.Test.YthelgjoobckbaaaLibBytes
namespace Go.Proofs.Ythelgjoobckbaaa
open Go.RowKit

theorem owns_base {b b' : Nat} {e : TypeId} {w : World} {v : Value} {n : Nat} {xs : List Value} (h : w.ownsRow b e 1 v n xs) (hb : b' ≤ b) : w.ownsRow b' e 1 v n xs := by
  refine ⟨h.1, ?_⟩
  rcases h.2 with h | ⟨g, cap, cur, h1, h2, h3⟩
  · exact .inl h
  · exact .inr ⟨g, cap, cur, h1, by omega, h3⟩

theorem arr4_agg (s : BitVec 32) : arr4 s = .agg #[.int .u8 ((s.toNat : Int) / 16777216), .int .u8 ((s.toNat : Int) / 65536 % 256), .int .u8 ((s.toNat : Int) / 256 % 256), .int .u8 ((s.toNat : Int) % 256)] := by
  unfold arr4
  rw [be4_values]

set_option maxRecDepth 100000 in
set_option maxHeartbeats 1000000 in
theorem Seal_any (v : Value) (l : List UInt8) (w : World) (hr : Rd w v l) (hl : l.length + 4 ≤ 140737488355328) :
    Calls Try.prog 44 #[v] w (Fresh 5 w ((sealed l).map bv)) := by
  obtain ⟨va, vc, rfl, hv1, hv2⟩ := hr.shape
  have HR := Lib.hid hr
  have HAG := Lib.hid (arr4_agg (sumOf l))
  have HBE := Lib.hid (be4_values (sumOf l))
  have HIN := Lib.hid (fun w => inBytes_any (sumOf l) w)
  have HOF := Lib.hid (Of_any _ l w hr)
  have hs := (sumOf l).isLt
  clear hr hv1 hv2
  have HLL := Lib.hid hl
  clear hl
  generalize arr4 (sumOf l) = A at HAG HIN
  generalize (sumOf l).toNat = n at HAG HBE HIN HOF hs
  go_enter Try.func44, Try.ntmps44
  go_wp2_with fail
  refine HOF.out.mono ?_
  rintro e w1 ⟨rfl, hb1⟩
  have HB1 := Lib.hid hb1
  clear hb1
  go_wp2_with fail
  refine (HIN.out _).mono ?_
  rintro e w2 ⟨rfl, hb2⟩
  have HB2 := Lib.hid (Ext.trans HB1.out hb2)
  rw [HAG.out]
  clear hb2
  go_wp2_with fail
  refine (Concat_any ⟨w2.heap.size + 1, 0, none⟩ 2 2 [.slice va l.length vc, .slice (some ⟨w2.heap.size, 0, none⟩) 4 4] [l, be4 (sumOf l)] _ rfl rfl (Nat.le_refl _) (by omega) ?_ ?_ ?_).mono ?_
  · intro i u hu
    have := cells_new (w2.alloc (Obj.cells #[.int .u8 ((n : Int) / 16777216), .int .u8 ((n : Int) / 65536 % 256), .int .u8 ((n : Int) / 256 % 256), .int .u8 ((n : Int) % 256)] 84)) _ 33 i u hu
    simpa using this
  · intro i u m hu hm
    match i, hu, hm with
    | 0, hu, hm =>
      cases hu; cases hm
      exact HR.out.mono (((HB2.out).alloc HB2.out.size _).alloc (by have := HB2.out.size; simp; omega) _)
    | 1, hu, hm =>
      cases hu; cases hm
      refine Rd.mono (w := w2.alloc (Obj.cells #[.int .u8 ((n : Int) / 16777216), .int .u8 ((n : Int) / 65536 % 256), .int .u8 ((n : Int) / 256 % 256), .int .u8 ((n : Int) % 256)] 84)) ?_ ((Below.refl _ _).alloc (Nat.le_refl _) _)
      refine .inr ⟨⟨w2.heap.size, 0, none⟩, 4, by rw [HBE.out]; rfl, by rw [HBE.out]; exact Nat.le_refl 4, by simp [maxLen], ?_⟩
      rw [HBE.out]
      exact cells_new _ _ _
    | i + 2, hu, hm => cases hu
  · have := HLL.out
    simp [be4]
    omega
  · rintro e w3 ⟨v3, rfl, ho, hb⟩
    have HO := Lib.hid ho
    have H3 := Lib.hid hb
    clear ho hb
    go_wp2_with fail
    go_ret
    refine ⟨_, rfl, ?_, ?_⟩
    · have h := HO.out
      have e : [l, be4 (sumOf l)].flatten = sealed l := by simp [sealed]
      rw [e] at h
      exact owns_base h (by have := HB2.out.size; simp; omega)
    · exact (((HB2.out).alloc HB2.out.size _).alloc (by have := HB2.out.size; simp; omega) _).trans (H3.out.mono (by have := HB2.out.size; simp; omega))

/-- A call that opens into memory of its own. -/
def OpenedOwn (w : World) (l : List UInt8) (e : Ending) (w' : World) : Prop :=
  ∃ u, e = .returned (.tuple #[u, .int .i64 (if opens l = true then 0 else 6)]) ∧ w'.ownsRow w.heap.size 5 1 u (opened l).length ((opened l).map bv) ∧ Ext w w'

theorem openedOwn_no {w w' : World} {l : List UInt8} (h : opens l = false) (hb : Ext w w') : OpenedOwn w l (.returned (.tuple #[.slice none 0 0, .int .i64 6])) w' := by
  refine ⟨.slice none 0 0, ?_, ?_, hb⟩
  · rw [h]; rfl
  · unfold opened; rw [h]; exact World.ownsRow_nil _ _ _ _
theorem openedOwn_yes {w w' : World} {l : List UInt8} {u : Value} (h : opens l = true) (hr : w'.ownsRow w.heap.size 5 1 u (l.take (l.length - 4)).length ((l.take (l.length - 4)).map bv)) (hb : Ext w w') : OpenedOwn w l (.returned (.tuple #[u, .int .i64 0])) w' := by
  refine ⟨u, ?_, ?_, hb⟩
  · rw [h]; rfl
  · unfold opened; rw [h]; exact hr

theorem eq_four (a0 a1 a2 a3 b0 b1 b2 b3 : Int) (w : World) :
    (Op.equalIn 10000 84 (.agg #[.int .u8 a0, .int .u8 a1, .int .u8 a2, .int .u8 a3]) (.agg #[.int .u8 b0, .int .u8 b1, .int .u8 b2, .int .u8 b3])).run Try.prog w = .ok (a0 == b0 && (a1 == b1 && (a2 == b2 && a3 == b3))) w := by
  have e1 := fun (a b : Int) (w : World) => run_equalIn_int (P := Try.prog) w 9998 5 .u8 .u8 a b Try.underlying5
  have u3 := Try.isAgg5
  have z3 := Try.sizeOf5
  rw [show (10000 : Nat) = 9999 + 1 from rfl, Op.equalIn]
  rw [show (9999 : Nat) = 9998 + 1 from rfl]
  generalize (9998 : Nat) = d at e1 ⊢
  simp [run_underlying Try.underlying84, z3, e1, Std.Legacy.Range.forIn_eq_forIn_range', List.range', part, u3]
  by_cases h0 : a0 = b0 <;> by_cases h1 : a1 = b1 <;> by_cases h2 : a2 = b2 <;> by_cases h3 : a3 = b3 <;> simp [h0, h1, h2, h3]

theorem four_list (l : List UInt8) (h : l.length = 4) : ∃ a b c d, l = [a, b, c, d] := by
  match l, h with
  | [a, b, c, d], _ => exact ⟨a, b, c, d, rfl⟩

theorem below_keeps (N : Nat) : Keeps (Below N) := ⟨fun w => Below.refl _ w, fun _ _ _ h k => h.trans k⟩
instance (N : Nat) (w : World) : Inhabited (Later (Below N) w) := ⟨⟨w, Below.refl _ _⟩⟩

end Go.Proofs.Ythelgjoobckbaaa
