/-
  THE LIBRARY's SORT AT NUMBERS OF 64 BITS: the place that is picked lies within the range; the row stays. Condition: at most 2^20 numbers.
-/
import Derived.Test.YtjaogmbeoldefaaSortPick
namespace Go.Proofs.Ytjaogmbeoldefaa
open Go.RowKit Go.Sort

theorem Cnt.made (w : World) (n : Int) : Cnt w.heap.size (w.alloc (.cells #[.int .i64 n] 3)) := by
  have hh : (w.alloc (.cells #[.int .i64 n] 3)).heap[w.heap.size]? = some (.cells #[.int .i64 n] 3) := by rw [World.alloc]; simp
  refine ⟨by simp, ⟨n, ?_⟩, ?_⟩
  · unfold World.cell?
    simp only [hh]
    simp
  · unfold World.frozen?
    simp only [hh]
    simp

set_option maxHeartbeats 4000000 in
theorem pivot_any (g off cap a b : Nat) (d : Array Int) (hab : a + 8 ≤ b) (hb : b ≤ d.size) (hsz : d.size ≤ 1048576) (w : World) (hA : Arr g off d w) :
    Calls Try.prog 66 #[.slice (some ⟨g, off, none⟩) d.size cap, .int .i64 (a : Int), .int .i64 (b : Int)] w fun r w' =>
      ∃ (x : Nat) (h : Int), r = .returned (.tuple #[.int .i64 (x : Int), .int .i64 h]) ∧ (a ≤ x ∧ x < b) ∧ (h = 0 ∨ h = 1 ∨ h = 2) ∧ Arr g off d w' ∧ Go.RowKit.Below w.heap.size w w' := by
  obtain ⟨l, HL⟩ : ∃ l, Hid (b = a + l) := ⟨b - a, by show _ = _; omega⟩
  obtain ⟨q, HQ⟩ : ∃ q, Hid (q = l / 4) := ⟨_, rfl⟩
  have hba : (b : Int) - (a : Int) = (l : Int) := by have := HL.out; omega
  have hq : (l : Int) / 4 = (q : Int) := by have := HQ.out; omega
  have hl8 : 8 ≤ l := by have := HL.out; omega
  have hq2 : 2 ≤ q := by have := HQ.out; omega
  have hqb : a + 4 * q ≤ b := by have := HL.out; have := HQ.out; omega
  have hgc : g ≠ w.heap.size := by have := hA.lt; omega
  have HA := Lib.hid (hA.below ((Go.RowKit.Below.refl w.heap.size w).alloc (Nat.le_refl _) (.cells #[.int .i64 0] 3)) hA.lt)
  have HB := Lib.hid ((Go.RowKit.Below.refl w.heap.size w).alloc (Nat.le_refl _) (.cells #[.int .i64 0] 3))
  have HC := Lib.hid (Cnt.made w 0)
  clear hA
  by_cases h50 : 50 ≤ l
  · have hq12 : 12 ≤ q := by have := HQ.out; omega
    have m1 := medAdj_any g off cap w.heap.size (a + q) d (by omega) (by omega) hsz _ hgc HA.out HC.out
    rw [show ((a + q : Nat) : Int) = (a : Int) + (q : Int) by omega] at m1
    go_enter Try.func66, Try.ntmps66
    go_wp2_with fail
    refine m1.mono ?_
    rintro r w2 ⟨x2, rfl, h2, hA2, hC2, hB2⟩
    have m2 := medAdj_any g off cap w.heap.size (a + q * 2) d (by omega) (by omega) hsz w2 hgc hA2 hC2
    rw [show ((a + q * 2 : Nat) : Int) = (a : Int) + (q : Int) * 2 by omega] at m2
    go_wp2_with fail
    refine m2.mono ?_
    rintro r w3 ⟨x3, rfl, h3, hA3, hC3, hB3⟩
    have m3 := medAdj_any g off cap w.heap.size (a + q * 3) d (by omega) (by omega) hsz w3 hgc hA3 hC3
    rw [show ((a + q * 3 : Nat) : Int) = (a : Int) + (q : Int) * 3 by omega] at m3
    go_wp2_with fail
    refine m3.mono ?_
    rintro r w4 ⟨x4, rfl, h4, hA4, hC4, hB4⟩
    go_wp2_with fail
    refine (median_any g off cap w.heap.size x2 x3 x4 d (by omega) (by omega) (by omega) w4 hgc hA4 hC4).mono ?_
    rintro r w5 ⟨x, rfl, h5, hA5, hC5, hB5⟩
    have hbb := HB.out.trans ((((hB2.trans hB3).trans hB4).trans hB5).below (Nat.le_refl _) (by simp))
    have HBB := Lib.hid hbb
    clear hbb
    obtain ⟨n, cn⟩ := hC5.cell
    by_cases n0 : n = 0
    · subst n0
      go_wp2_with fail
      go_ret2
      exact ⟨x, 1, rfl, by omega, by omega, hA5, HBB.out⟩
    · have hn0 : (n == 0) = false := by simpa using n0
      by_cases n1 : n = 12
      · subst n1
        go_wp2_with fail
        go_ret2
        exact ⟨x, 2, rfl, by omega, by omega, hA5, HBB.out⟩
      · have hn1 : (n == 12) = false := by simpa using n1
        go_wp2_with fail
        go_ret2
        exact ⟨x, 0, rfl, by omega, by omega, hA5, HBB.out⟩
  · have m1 := median_any g off cap w.heap.size (a + q) (a + q * 2) (a + q * 3) d (by omega) (by omega) (by omega) _ hgc HA.out HC.out
    rw [show ((a + q : Nat) : Int) = (a : Int) + (q : Int) by omega, show ((a + q * 2 : Nat) : Int) = (a : Int) + (q : Int) * 2 by omega, show ((a + q * 3 : Nat) : Int) = (a : Int) + (q : Int) * 3 by omega] at m1
    go_enter Try.func66, Try.ntmps66
    go_wp2_with fail
    refine m1.mono ?_
    rintro r w5 ⟨x, rfl, h5, hA5, hC5, hB5⟩
    have hbb := HB.out.trans (hB5.below (Nat.le_refl _) (by simp))
    have HBB := Lib.hid hbb
    clear hbb
    obtain ⟨n, cn⟩ := hC5.cell
    by_cases n0 : n = 0
    · subst n0
      go_wp2_with fail
      go_ret2
      exact ⟨x, 1, rfl, by omega, by omega, hA5, HBB.out⟩
    · have hn0 : (n == 0) = false := by simpa using n0
      by_cases n1 : n = 12
      · subst n1
        go_wp2_with fail
        go_ret2
        exact ⟨x, 2, rfl, by omega, by omega, hA5, HBB.out⟩
      · have hn1 : (n == 12) = false := by simpa using n1
        go_wp2_with fail
        go_ret2
        exact ⟨x, 0, rfl, by omega, by omega, hA5, HBB.out⟩

end Go.Proofs.Ytjaogmbeoldefaa
