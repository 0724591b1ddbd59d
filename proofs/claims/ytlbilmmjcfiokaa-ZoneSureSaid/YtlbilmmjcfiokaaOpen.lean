/-
  What an argument that came in as plain data is to a walk: a slice of numbers, of bytes, of strings, as the list that it reads as.
-/
import Derived.ProofKit
import Derived.OpenShut
import Derived.ShutString
import Derived.ChangeOld
import Derived.SliceStrings
import Derived.SizedLaws
import Derived.Test.YtlbilmmjcfiokaaBase
namespace Go.Proofs.Ytlbilmmjcfiokaa
open Go.ChangeShapes Go.WideShapes Go.ChangeAt Go.RowKit

section
variable {H : Type} {enc : TypeId × Value → H} {P : Program} {w : World} {base : Nat} {held : Bool}

theorem rdV_row {x : Addr} {len cap : Nat} {xs : List Value} (hl : len ≤ cap) (hm : cap ≤ maxLen) (hz : xs.length = cap) (hc : ∀ i u, xs[i]? = some u → w.cell? (x.add i) = some u) : RdV w (.slice (some x) len cap) (xs.take len) := by
  refine .inr ⟨x, cap, by rw [List.length_take, hz, Nat.min_eq_left hl], by rw [List.length_take]; omega, hm, fun i u hu => hc i u ?_⟩
  rw [List.getElem?_take] at hu
  split at hu
  · exact hu
  · cases hu

/-- A slice of numbers. -/
theorem read_ints {t e : TypeId} {k : IntKind} {v : Value} {d : DataW H} {ps : List MemPlace} (ht : P.underlying t = some (.slice e)) (he : P.underlying e = some (.int k)) (hc : P.cellsOf e = 1)
    (hv : v.cells.toList = [v]) (h : DataW.Trod enc P w base (fun _ => true) held t v d ps) :
    ∃ zs : List Int, RdV w v (zs.map (Value.int k)) ∧ ∀ n ∈ zs, (Lit.int k n).wf = true := by
  obtain ⟨fuel, hf⟩ := h
  rw [hv] at hf
  rcases open_ints ht he hc hf with ⟨hcs, _⟩ | ⟨x, l, c, zs, hcs, _, hl, hm, hz, _, hcell, hwz⟩
  · obtain rfl : v = .slice none 0 0 := by simpa using hcs
    exact ⟨[], RdV.nil w, by simp⟩
  · obtain rfl : v = .slice (some x) l c := by simpa using hcs
    refine ⟨zs.take l, ?_, fun n hn => hwz n (List.mem_of_mem_take hn)⟩
    rw [List.map_take]
    refine rdV_row hl hm (by simpa using hz) fun i u hu => ?_
    rw [List.getElem?_map] at hu
    obtain ⟨n, hn, rfl⟩ := Option.map_eq_some_iff.1 hu
    have hi : i < zs.length := (List.getElem?_eq_some_iff.1 hn).1
    rw [hcell i hi, List.getD_eq_getElem?_getD, hn]
    rfl

theorem bytes_of_wf : ∀ (zs : List Int), (∀ n ∈ zs, (Lit.int .u8 n).wf = true) → zs.map (Value.int .u8) = (zs.map fun n => UInt8.ofNat n.toNat).map bv
  | [], _ => rfl
  | n :: zs, h => by
    have hn := h n (by simp)
    have hb : 0 ≤ n ∧ n ≤ 255 := bounds_u8 hn
    simp only [List.map_cons]
    rw [bytes_of_wf zs fun m hm => h m (by simp [hm])]
    congr 1
    unfold bv
    rw [UInt8.toNat_ofNat']
    congr 1
    omega

/-- A slice of bytes. -/
theorem read_bytes {t e : TypeId} {v : Value} {d : DataW H} {ps : List MemPlace} (ht : P.underlying t = some (.slice e)) (he : P.underlying e = some (.int .u8)) (hc : P.cellsOf e = 1)
    (hv : v.cells.toList = [v]) (h : DataW.Trod enc P w base (fun _ => true) held t v d ps) : ∃ l : List UInt8, Rd w v l := by
  obtain ⟨zs, hr, hw⟩ := read_ints ht he hc hv h
  rw [bytes_of_wf zs hw] at hr
  exact ⟨_, hr⟩

/-- A slice of strings. -/
theorem read_strings {t e : TypeId} {v : Value} {d : DataW H} {ps : List MemPlace} (ht : P.underlying t = some (.slice e)) (he : P.underlying e = some .string) (hc : P.cellsOf e = 1)
    (hv : v.cells.toList = [v]) (h : DataW.Trod enc P w base (fun _ => true) held t v d ps) :
    ∃ ss : List ByteArray, RdV w v (ss.map Value.string) ∧ ∀ s ∈ ss, s.size ≤ maxLen := by
  obtain ⟨fuel, hf⟩ := h
  rw [hv] at hf
  rcases open_strings ht he hc hf with ⟨hcs, _⟩ | ⟨x, l, c, ss, hcs, _, hl, hm, hz, _, hcell, hws⟩
  · obtain rfl : v = .slice none 0 0 := by simpa using hcs
    exact ⟨[], RdV.nil w, by simp⟩
  · obtain rfl : v = .slice (some x) l c := by simpa using hcs
    refine ⟨ss.take l, ?_, fun n hn => hws n (List.mem_of_mem_take hn)⟩
    rw [List.map_take]
    refine rdV_row hl hm (by simpa using hz) fun i u hu => ?_
    rw [List.getElem?_map] at hu
    obtain ⟨n, hn, rfl⟩ := Option.map_eq_some_iff.1 hu
    have hi : i < ss.length := (List.getElem?_eq_some_iff.1 hn).1
    rw [hcell i hi, List.getD_eq_getElem?_getD, hn]
    rfl

end
end Go.Proofs.Ytlbilmmjcfiokaa
