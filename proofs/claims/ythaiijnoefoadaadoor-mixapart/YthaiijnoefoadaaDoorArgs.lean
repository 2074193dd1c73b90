/-
  WHAT A SLICE OF NUMBERS OF 64 BITS THAT CAME IN HOLDS: its numbers lie where it leads to. No condition.
-/
import Derived.Test.YthaiijnoefoadaaDoorPlays
import Derived.Test.YthaiijnoefoadaaDoorLaid
namespace Go.Proofs.YthaiijnoefoadaaDoor
open Go.ChangeShapes Go.WideShapes Go.ChangeAt Go.RowKit

theorem block_lt {w : World} {b off : Nat} {v : Value} (h : w.cell? ⟨b, off, none⟩ = some v) : b < w.heap.size := by
  rcases Nat.lt_or_ge b w.heap.size with h' | h'
  · exact h'
  · simp [World.cell?, Array.getElem?_eq_none h'] at h

theorem wf_in {n : Int} (h : (Lit.int .u64 n).wf = true) : In64 n := by
  have := bounds_u64 h
  unfold In64; omega

theorem open_row {H : Type} {enc : TypeId × Value → H} {W : World} {sp : Nat → Bool} {held : Bool} {a : Option Addr} {len cap : Nat} {d : DataW H} {p : List MemPlace}
    (h : DataW.Trod enc Tryd.prog W 0 sp held 23 (.slice a len cap) d p) : ∃ l : List Int, l.length = len ∧ HoldsRow W a l := by
  obtain ⟨fuel, hf⟩ := h
  rcases open_ints Tryd.underlying23 Tryd.underlying22 (by kernel_rfl) hf with ⟨hcs, _⟩ | ⟨x, l, c, zs, hcs, _, hl, hm, hz, _, hcell, hwz⟩
  · simp [Value.cells] at hcs
    obtain ⟨rfl, rfl, rfl⟩ := hcs
    exact ⟨[], rfl, .inl rfl⟩
  · simp [Value.cells] at hcs
    obtain ⟨rfl, rfl, rfl⟩ := hcs
    have hz' : len ≤ zs.length := by split at hz <;> omega
    refine ⟨zs.take len, by simp; omega, ?_⟩
    by_cases h0 : len = 0
    · subst h0; exact .inl (by simp)
    · obtain ⟨b, off, rfl, hc⟩ := ints_at hcell (by omega)
      refine .inr ⟨b, off, rfl, block_lt (hc 0 (by omega)), fun j hj => ?_⟩
      simp at hj
      rw [hc j (by omega)]
      simp [List.getD_eq_getElem?_getD, show j < len by omega]
end Go.Proofs.YthaiijnoefoadaaDoor
