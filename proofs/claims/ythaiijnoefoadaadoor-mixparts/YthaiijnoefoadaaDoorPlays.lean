/-
  THE LAWS THAT FOLD: what a slice that came in holds; MixPlays returns true. Conditions: the package's table of rounds reads as its text lays it, numbers of 64 bits.
-/
import Derived.Test.YthaiijnoefoadaaDoorFixed
import Derived.Test.YthaiijnoefoadaaDoorRef
namespace Go.Proofs.YthaiijnoefoadaaDoor
open Go.RowKit

/-- These numbers lie where a slice leads to. -/
def HoldsRow (w : World) (a : Option Addr) (l : List Int) : Prop := l = [] ∨ ∃ b off, a = some ⟨b, off, none⟩ ∧ b < w.heap.size ∧ Row w b off l

theorem HoldsRow.below {w w' : World} {a : Option Addr} {l : List Int} (h : HoldsRow w a l) (hb : Below w.heap.size w w') : HoldsRow w' a l := by
  rcases h with h | ⟨b, off, ha, hlt, hr⟩
  · exact .inl h
  · exact .inr ⟨b, off, ha, Nat.lt_of_lt_of_le hlt hb.size, fun j hj => (hb.cell (by exact hlt)).trans (hr j hj)⟩

theorem fold_any (a : Option Addr) (cap n : Nat) (l : List Int) (t : TypeId) (fr : Nat × Nat) (w : World) (hg : w.heap[0]? = some (.cells cs9 t fr)) (hn : n ≤ 1000) (hl : l.length = n) (hr : HoldsRow w a l) :
    Calls Tryd.prog 10 #[.slice a n cap] w fun e w' => e = .returned (.int .u64 (foldI l)) ∧ Below w.heap.size w w' := by
  rcases hr with rfl | ⟨b, off, rfl, hb, hr⟩
  · obtain rfl : n = 0 := hl.symm
    exact (fold_none a cap w).mono fun e w' ⟨he, hw⟩ => ⟨he, hw ▸ Below.refl _ _⟩
  · exact fold_some b off cap n l t fr w hg hn hl hb hr
theorem refFold_any (a : Option Addr) (cap n : Nat) (l : List Int) (w : World) (hn : n ≤ 1000) (hl : l.length = n) (hr : HoldsRow w a l) :
    Calls Tryd.prog 11 #[.slice a n cap] w fun e w' => e = .returned (.int .u64 (foldI l)) ∧ w = w' := by
  rcases hr with rfl | ⟨b, off, rfl, hb, hr⟩
  · obtain rfl : n = 0 := hl.symm
    exact refFold_none a cap w
  · exact refFold_some b off cap n l w hn hl hr

set_option maxHeartbeats 400000 in
theorem mixPlays_long (x : Int) (a : Option Addr) (n cap : Nat) (t : TypeId) (fr : Nat × Nat) (w : World) (hg : w.heap[0]? = some (.cells cs9 t fr)) (hn : 100 < n) :
    Calls Tryd.prog 3 #[.int .u64 x, .slice a n cap] w fun e w' => e = .returned (.bool true) ∧ Below w.heap.size w w' := by
  have HG := Lib.hid hg; clear hg
  go_enter Tryd.func3, Tryd.ntmps3
  go_wp2_with fail
  refine (fixed_any t fr _ HG.out).mono ?_
  rintro e w1 ⟨rfl, b1⟩
  go_wp2_with fail
  go_ret
  exact ⟨rfl, b1⟩

set_option maxHeartbeats 400000 in
theorem mixPlays_short (x : Int) (a : Option Addr) (n cap : Nat) (l : List Int) (t : TypeId) (fr : Nat × Nat) (w : World) (hg : w.heap[0]? = some (.cells cs9 t fr)) (hn : n ≤ 100) (hl : l.length = n) (hr : HoldsRow w a l) :
    Calls Tryd.prog 3 #[.int .u64 x, .slice a n cap] w fun e w' => e = .returned (.bool true) ∧ Below w.heap.size w w' := by
  have hz : 0 < w.heap.size := (Array.getElem?_eq_some_iff.1 hg).1
  have HG := Lib.hid hg; clear hg
  have HL := Lib.hid hl; clear hl
  have hn' : n ≤ 1000 := by omega
  go_enter Tryd.func3, Tryd.ntmps3
  go_wp2_with fail
  refine (fixed_any t fr _ HG.out).mono ?_
  rintro e w1 ⟨rfl, b1⟩
  go_wp2_with fail
  refine (mix_any x t fr _ (laid_below HG.out hz b1)).mono ?_
  rintro e w2 ⟨rfl, b2'⟩
  have b2 := b1.trans (b2'.mono b1.size)
  go_wp2_with fail
  refine (refMix_any x _).mono ?_
  rintro e w2' ⟨rfl, rfl⟩
  go_wp2_with fail
  refine (fold_any a cap n l t fr _ (laid_below HG.out hz b2) hn' HL.out (hr.below b2)).mono ?_
  rintro e w3 ⟨rfl, b3'⟩
  have b3 := b2.trans (b3'.mono b2.size)
  go_wp2_with fail
  refine (refFold_any a cap n l _ hn' HL.out (hr.below b3)).mono ?_
  rintro e w3' ⟨rfl, rfl⟩
  go_wp2_with fail
  go_ret
  exact ⟨rfl, b3⟩
end Go.Proofs.YthaiijnoefoadaaDoor
