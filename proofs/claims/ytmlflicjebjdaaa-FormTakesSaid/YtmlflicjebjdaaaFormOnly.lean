/-
  The walk of the law FormOnly.
-/
import Derived.Test.YtmlflicjebjdaaaShown
import Derived.Test.YtmlflicjebjdaaaRead
import Derived.Test.YtmlflicjebjdaaaCan
import Derived.BigQuiet
namespace Go.Proofs.Ytmlflicjebjdaaa
open Go.RowKit Go.BigFrame

theorem Only.below {B b : Nat} {w w' : World} (h : Only b w w') (hb : B ≤ b) (hB : B ≤ w.heap.size) : Below B w w' :=
  (Below.refl B w).grown h hB (fun k hk => by cases hk; exact hb)

/-- A reader goes on as it is where its own memory is as it was. -/
theorem Rdr.mono {T : TypeId} {B b : Nat} {w w' : World} {l : List UInt8} {bad : Bool} (h : RdrT T B w b l bad) (hb : Below w.heap.size w w') : RdrT T B w' b l bad := by
  obtain ⟨v, h1, h2, h3⟩ := h
  exact ⟨v, (hb.block b (Array.getElem?_eq_some_iff.1 h1).1).trans h1, h2.mono hb, h3⟩

theorem only_ext {w1 w2 w3 : World} {b : Nat} (h2 : Below w1.heap.size w1 w2) (h3 : Only b w2 w3) (hb : w1.heap.size ≤ b) : Below w1.heap.size w1 w3 :=
  h2.trans (h3.below hb h2.size)

/-- The bytes that were taken are the number's encoding. -/
theorem cut_enc {x : Addr} {m cap n s : Nat} {l : List UInt8} (hl : l.length = m) (_hm : m ≤ cap) (hf : front l = (n, s)) (hs : s ≠ 0) (W : World) (h : Rd W (.slice (some x) m cap) l) : Rd W (.slice (some x) s cap) (enc n) := by
  obtain ⟨_, h1, h2⟩ := front_sound l n s hf hs
  have hle := front_le hf
  have he : l.take s = enc n := by
    rw [h2, h1, List.take_left]
  rcases h with ⟨h0, _⟩ | ⟨x', cap', h0, h3, h4, h5⟩
  · cases h0
  · simp only [Value.slice.injEq, Option.some.injEq] at h0
    obtain ⟨rfl, _, rfl⟩ := h0
    have := RdV.takes h3 h4 h5 s s (by rw [List.length_map]; omega)
    rw [← List.map_take, he] at this
    exact this

theorem only_end {w w1 w2 w3 : World} {b : Nat} (h1 : Below w.heap.size w w1) (h2 : Below w1.heap.size w1 w2) (h3 : Only b w2 w3) (hb : w1.heap.size ≤ b) : Below w.heap.size w w3 := by
  have s1 := h1.size
  have s2 := h2.size
  exact (h1.trans (h2.mono s1)).trans (h3.below (by omega) (by omega))

set_option maxRecDepth 100000 in
set_option maxHeartbeats 1000000 in
theorem formOnly_nil (w : World) : Calls Try.prog 7 #[.slice none 0 0] w fun e w' => e = .returned (.bool true) ∧ Below w.heap.size w w' := by
  have HF := Lib.hid (show (front []).2 = 0 from rfl)
  go_enter Try.func7, Try.ntmps7
  go_wp2_with fail
  refine (shown_any _).mono ?_
  rintro e w1 ⟨rfl, hb1⟩
  have H1 := Lib.hid hb1
  clear hb1
  go_wp2_with fail
  refine (New_any _ _ _ (Rd.nil _) (by simp)).mono ?_
  rintro e w2 ⟨b, rfl, hb, hr2, hbel2⟩
  have HB2 := Lib.hid hbel2
  have HR2 := Lib.hid hr2
  clear hbel2 hr2
  go_wp2_with fail
  refine (RNum_no _ b _ _ HR2.out HF.out).mono ?_
  rintro e w3 ⟨rfl, hr3, ho3⟩
  have HR3 := Lib.hid hr3
  have HO3 := Lib.hid ho3
  clear hr3 ho3
  go_wp2_with fail
  refine (Bad_any _ b _ true _ HR3.out).mono ?_
  rintro e w4 ⟨rfl, rfl⟩
  go_wp2_with fail
  refine (Left_bad _ b _ _ HR3.out).mono ?_
  rintro e w4 ⟨rfl, rfl⟩
  go_wp2_with fail
  refine (RNum_bad _ b _ _ HR3.out).mono ?_
  rintro e w4 ⟨rfl, rfl⟩
  go_wp2_with fail
  refine (RInt_bad _ b _ _ HR3.out).mono ?_
  rintro e w4 ⟨rfl, rfl⟩
  go_wp2_with fail
  refine (RText_bad _ b _ _ HR3.out).mono ?_
  rintro e w4 ⟨rfl, rfl⟩
  go_wp2_with fail
  go_ret
  exact ⟨rfl, only_end H1.out HB2.out HO3.out hb⟩

set_option maxRecDepth 100000 in
set_option maxHeartbeats 1000000 in
theorem formOnly_bad (x : Addr) (L cap : Nat) (l1 : List UInt8) (w : World) (hL : L ≤ cap) (_hm : cap ≤ 9223372036854775807) (hr : Rd w (.slice (some x) (min (L : Int) 20).toNat cap) l1) (hl : l1.length ≤ 20) (hf : (front l1).2 = 0) :
    Calls Try.prog 7 #[.slice (some x) L cap] w fun e w' => e = .returned (.bool true) ∧ Below w.heap.size w w' := by
  have HF := Lib.hid hf
  have HR := Lib.hid hr
  clear hf hr
  go_enter Try.func7, Try.ntmps7
  go_wp2_with fail
  refine (shown_any _).mono ?_
  rintro e w1 ⟨rfl, hb1⟩
  have H1 := Lib.hid hb1
  clear hb1
  go_wp2_with fail
  refine (New_any _ _ _ (HR.out.mono H1.out) (by omega)).mono ?_
  rintro e w2 ⟨b, rfl, hb, hr2, hbel2⟩
  have HB2 := Lib.hid hbel2
  have HR2 := Lib.hid hr2
  clear hbel2 hr2
  go_wp2_with fail
  refine (RNum_no _ b _ _ HR2.out HF.out).mono ?_
  rintro e w3 ⟨rfl, hr3, ho3⟩
  have HR3 := Lib.hid hr3
  have HO3 := Lib.hid ho3
  clear hr3 ho3
  go_wp2_with fail
  refine (Bad_any _ b _ true _ HR3.out).mono ?_
  rintro e w4 ⟨rfl, rfl⟩
  go_wp2_with fail
  refine (Left_bad _ b _ _ HR3.out).mono ?_
  rintro e w4 ⟨rfl, rfl⟩
  go_wp2_with fail
  refine (RNum_bad _ b _ _ HR3.out).mono ?_
  rintro e w4 ⟨rfl, rfl⟩
  go_wp2_with fail
  refine (RInt_bad _ b _ _ HR3.out).mono ?_
  rintro e w4 ⟨rfl, rfl⟩
  go_wp2_with fail
  refine (RText_bad _ b _ _ HR3.out).mono ?_
  rintro e w4 ⟨rfl, rfl⟩
  go_wp2_with fail
  go_ret
  exact ⟨rfl, only_end H1.out HB2.out HO3.out hb⟩

set_option maxRecDepth 100000 in
set_option maxHeartbeats 1000000 in
theorem formOnly_good (x : Addr) (L cap : Nat) (l1 : List UInt8) (n s : Nat) (w : World) (hL : L ≤ cap) (_hm : cap ≤ 9223372036854775807) (hr : Rd w (.slice (some x) (min (L : Int) 20).toNat cap) l1) (hl : l1.length = (min (L : Int) 20).toNat) (hf : front l1 = (n, s)) (hs : s ≠ 0) :
    Calls Try.prog 7 #[.slice (some x) L cap] w fun e w' => e = .returned (.bool true) ∧ Below w.heap.size w w' := by
  obtain ⟨hn, hse, hl1⟩ := front_sound l1 n s hf hs
  have hsl := front_le hf
  have hcut : ∀ W, Rd W (.slice (some x) (min (L : Int) 20).toNat cap) l1 → Rd W (.slice (some x) s cap) (enc n) := cut_enc hl (by omega) hf hs
  have HF := Lib.hid hf
  have HR := Lib.hid hr
  have HC := Lib.hid hcut
  have HL := Lib.hid hl
  have hl2 : l1.length ≤ 20 := by omega
  have hd : (l1.drop s).length = l1.length - s := List.length_drop
  have HD := Lib.hid hd
  clear hf hr hcut hl hl1 hse hd
  go_enter Try.func7, Try.ntmps7
  go_wp2_with fail
  refine (shown_any _).mono ?_
  rintro e w1 ⟨rfl, hb1⟩
  have H1 := Lib.hid hb1
  clear hb1
  go_wp2_with fail
  refine (New_any _ _ _ (HR.out.mono H1.out) (by omega)).mono ?_
  rintro e w2 ⟨b, rfl, hb, hr2, hbel2⟩
  have HB2 := Lib.hid hbel2
  have HR2 := Lib.hid hr2
  clear hbel2 hr2
  go_wp2_with fail
  refine (RNum_yes _ b _ n s _ HR2.out HF.out hs).mono ?_
  rintro e w3 ⟨rfl, hr3, ho3⟩
  have HR3 := Lib.hid hr3
  have HO3 := Lib.hid ho3
  clear hr3 ho3
  go_wp2_with fail
  refine (Bad_any _ b _ false _ HR3.out).mono ?_
  rintro e w4 ⟨rfl, rfl⟩
  go_wp2_with fail
  refine (Left_any _ b _ _ HR3.out).mono ?_
  rintro e w4 ⟨rfl, rfl⟩
  go_wp2_with fail
  have e7 : (max (min (L : Int) 20) 0 - ((l1.length - s : Nat) : Int)) = (s : Int) := by have := HL.out; omega
  rw [e7]
  clear e7
  have hsc : s ≤ cap := by have := HL.out; omega
  have hp1 : decide ((1 : Int) ≤ s) = true := decide_eq_true (by omega)
  have hp2 : decide ((s : Int) ≤ max (min (L : Int) 20) 0) = true := decide_eq_true (by have := HL.out; omega)
  have hx3 := HC.out _ ((HR.out.mono H1.out).mono (only_ext HB2.out HO3.out hb))
  have hcx : ∀ p : Later Ext w3.drew, (convert 22 9 (.slice (some x) s cap)).run Try.prog p.val = .ok (.string ⟨(enc n).toArray⟩) p.val := fun p => (hx3.mono (Ext.trans (Ext.drew _) p.ext)).string _ _ _ Try.underlying22 Try.underlying5 Try.underlying9
  clear hx3
  refine wp_region_segs Ext Ext.keeps [([0, 1, 2, 3, 4, 5, 6, 7, 8, 9, 10, 11, 12, 15, 16, 17, 18], some 13), ([14, 19, 20, 21], none)] (by kernel_rfl) (by kernel_rfl) (fun c a a' w e h => (by exact ⟨e ▸ h.1, h.2⟩)) ?_
  simp only [pickSegs, pickOps, List.map_cons, List.map_nil, Option.map_some, Option.map_none, Option.getD_some, List.getElem?_toArray, List.getElem?_cons_zero, List.getElem?_cons_succ]
  refine wpSegs_some fun K hK => ?_
  repeat go_big_quiet_step (fail)
  refine wpQuiet_nil ?_
  clear hcx
  go_wp2_with fail
  refine (Num_nil n _ (by omega)).mono ?_
  rintro e w5 ⟨v5, rfl, hc5, hb5⟩
  go_wp2_with fail
  refine ⟨hb5, hK _ _ ?_⟩
  clear hK K
  have H5 := Lib.hid hb5
  clear hb5
  refine wpSegs_none ?_
  repeat go_big_quiet_step (fail)
  refine wpQuiet_nil ?_
  refine wpSegs_nil ?_
  go_wp2
  go_ret
  exact ⟨rfl, (only_end H1.out HB2.out HO3.out hb).trans ((Ext.trans (Ext.drew _) H5.out).mono (only_end H1.out HB2.out HO3.out hb).size)⟩

theorem formOnly_walk (v : Value) (l : List UInt8) (w : World) (hr : Rd w v l) :
    Calls Try.prog 7 #[v] w fun e w' => e = .returned (.bool true) ∧ Below w.heap.size w w' := by
  rcases hr with ⟨rfl, h1⟩ | ⟨x, cap, rfl, h2, h3, h4⟩
  · exact formOnly_nil w
  · have ht := RdV.takes h2 h3 h4 20 (min ((l.map bv).length : Int) 20).toNat (by omega)
    rw [← List.map_take] at ht
    rw [List.length_map] at ht h2 ⊢
    unfold maxLen at h3
    have hl : (l.take 20).length = (min (l.length : Int) 20).toNat := by rw [List.length_take]; omega
    by_cases hs : (front (l.take 20)).2 = 0
    · exact formOnly_bad x _ cap _ w h2 (by omega) ht (by omega) hs
    · exact formOnly_good x _ cap _ _ _ w h2 (by omega) ht hl rfl hs

end Go.Proofs.Ytmlflicjebjdaaa
