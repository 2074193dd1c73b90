/-
  THE LIBRARY's SORT AT NUMBERS OF 64 BITS: which place is picked. Condition: at most 2^20 numbers. (Nothing is told of which but that it is within the range, and that the row stays.)
-/
import Derived.Test.YtjaogmbeoldefaaSortPeq
namespace Go.Proofs.Ytjaogmbeoldefaa
open Go.RowKit Go.Sort

/-- A counter of the call's own. -/
structure Cnt (c : Nat) (w : World) : Prop where
  lt : c < w.heap.size
  cell : ∃ n, w.cell? ⟨c, 0, none⟩ = some (.int .i64 n)
  frozen : w.frozen? ⟨c, 0, none⟩ = false

theorem Cnt.drewN {c : Nat} {w : World} (h : Cnt c w) (n : Nat) : Cnt c (w.drewN n) := ⟨h.lt, h.cell, h.frozen⟩
theorem Cnt.set {c : Nat} {w : World} (h : Cnt c w) (n : Int) : Cnt c (w.setCell ⟨c, 0, none⟩ (.int .i64 n)) := by
  obtain ⟨m, hm⟩ := h.cell
  exact ⟨by have := h.lt; simp [World.setCell]; omega, ⟨n, World.cell?_setCell_same _ _ _ hm⟩, by rw [World.frozen?_setCell]; exact h.frozen⟩

set_option maxHeartbeats 1000000 in
theorem order2_any (g off cap c a b : Nat) (d : Array Int) (ha : a < d.size) (hb : b < d.size) (w : World) (hgc : g ≠ c) (hA : Arr g off d w) (hC : Cnt c w) :
    Calls Try.prog 82 #[.slice (some ⟨g, off, none⟩) d.size cap, .int .i64 (a : Int), .int .i64 (b : Int), .pointer (some ⟨c, 0, none⟩)] w fun e w' =>
      ∃ x y : Nat, e = .returned (.tuple #[.int .i64 (x : Int), .int .i64 (y : Int)]) ∧ ((x = a ∧ y = b) ∨ (x = b ∧ y = a)) ∧ Arr g off d w' ∧ Cnt c w' ∧ But c w w' := by
  obtain ⟨hc, hf⟩ := hA.cells rfl
  obtain ⟨m, cm⟩ := hC.cell
  have fm := hC.frozen
  have HA := Lib.hid hA
  have HC := Lib.hid hC
  clear hA hC
  go_enter Try.func82, Try.ntmps82
  go_wp2_with fail
  go_big_quiet (first | (go_at_call 69; refine Calls.quiet_of_same (less_same _ _ _)))
  go_wp2_with fail
  · go_ret2
    refine ⟨b, a, rfl, .inr ⟨rfl, rfl⟩, ?_, ?_, ?_⟩
    · exact (HA.out.drewN nq).but (But.setCell _ _ _ _) hgc
    · exact (HC.out.drewN nq).set _
    · exact ((But.refl c w).drewN nq).trans (But.setCell _ _ _ _)
  · go_ret2
    exact ⟨a, b, rfl, .inl ⟨rfl, rfl⟩, HA.out.drewN nq, HC.out.drewN nq, (But.refl c w).drewN nq⟩

set_option maxHeartbeats 1000000 in
theorem median_any (g off cap c a b e : Nat) (d : Array Int) (ha : a < d.size) (hb : b < d.size) (he : e < d.size) (w : World) (hgc : g ≠ c) (hA : Arr g off d w) (hC : Cnt c w) :
    Calls Try.prog 80 #[.slice (some ⟨g, off, none⟩) d.size cap, .int .i64 (a : Int), .int .i64 (b : Int), .int .i64 (e : Int), .pointer (some ⟨c, 0, none⟩)] w fun r w' =>
      ∃ x : Nat, r = .returned (.int .i64 (x : Int)) ∧ (x = a ∨ x = b ∨ x = e) ∧ Arr g off d w' ∧ Cnt c w' ∧ But c w w' := by
  go_enter Try.func80, Try.ntmps80
  go_wp2_with fail
  refine (order2_any g off cap c a b d ha hb w hgc hA hC).mono ?_
  rintro r w1 ⟨x1, y1, rfl, h1, hA1, hC1, hB1⟩
  go_wp2_with fail
  refine (order2_any g off cap c y1 e d (by omega) he w1 hgc hA1 hC1).mono ?_
  rintro r w2 ⟨x2, y2, rfl, h2, hA2, hC2, hB2⟩
  go_wp2_with fail
  refine (order2_any g off cap c x1 x2 d (by omega) (by omega) w2 hgc hA2 hC2).mono ?_
  rintro r w3 ⟨x3, y3, rfl, h3, hA3, hC3, hB3⟩
  go_wp2_with fail
  go_ret
  exact ⟨y3, rfl, by omega, hA3, hC3, (hB1.trans hB2).trans hB3⟩

set_option maxHeartbeats 1000000 in
theorem medAdj_any (g off cap c a : Nat) (d : Array Int) (h0 : 0 < a) (ha : a + 1 < d.size) (hsz : d.size ≤ 1048576) (w : World) (hgc : g ≠ c) (hA : Arr g off d w) (hC : Cnt c w) :
    Calls Try.prog 79 #[.slice (some ⟨g, off, none⟩) d.size cap, .int .i64 (a : Int), .pointer (some ⟨c, 0, none⟩)] w fun r w' =>
      ∃ x : Nat, r = .returned (.int .i64 (x : Int)) ∧ (a ≤ x + 1 ∧ x ≤ a + 1) ∧ Arr g off d w' ∧ Cnt c w' ∧ But c w w' := by
  have hm := median_any g off cap c (a - 1) a (a + 1) d (by omega) (by omega) ha w hgc hA hC
  rw [show ((a - 1 : Nat) : Int) = (a : Int) - 1 by omega, show ((a + 1 : Nat) : Int) = (a : Int) + 1 by omega] at hm
  go_enter Try.func79, Try.ntmps79
  go_wp2_with fail
  refine hm.mono ?_
  rintro r w1 ⟨x1, rfl, h1, hA1, hC1, hB1⟩
  go_wp2_with fail
  go_ret
  exact ⟨x1, rfl, by omega, hA1, hC1, hB1⟩

end Go.Proofs.Ytjaogmbeoldefaa
