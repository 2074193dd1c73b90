/-
  WHAT A SLICE OF NUMBERS OF 64 BITS THAT CAME IN HOLDS, nil told apart. No condition.
-/
import Derived.Test.YthaiijnoefoadaaDoorApart
import Derived.Test.YthaiijnoefoadaaDoorArgs
namespace Go.Proofs.YthaiijnoefoadaaDoor
open Go.ChangeShapes Go.WideShapes Go.ChangeAt Go.RowKit

theorem open_came {H : Type} {enc : TypeId × Value → H} {W : World} {sp : Nat → Bool} {held : Bool} {a : Option Addr} {len cap : Nat} {d : DataW H} {p : List MemPlace}
    (h : DataW.Trod enc Tryd.prog W 0 sp held 23 (.slice a len cap) d p) : ∃ l : List Int, Came W a len cap l := by
  obtain ⟨l, hl, hr⟩ := open_row h
  obtain ⟨fuel, hf⟩ := h
  rcases open_ints Tryd.underlying23 Tryd.underlying22 (by kernel_rfl) hf with ⟨hcs, _⟩ | ⟨x, _, _, zs, hcs, _⟩
  · simp [Value.cells] at hcs
    obtain ⟨rfl, rfl, rfl⟩ := hcs
    exact ⟨[], .inl ⟨rfl, rfl, rfl, rfl⟩⟩
  · simp [Value.cells] at hcs
    obtain ⟨rfl, rfl, rfl⟩ := hcs
    exact ⟨l, .inr ⟨⟨_, rfl⟩, hl, hr⟩⟩
end Go.Proofs.YthaiijnoefoadaaDoor
