/-
  THE DOCUMENT's: two rows of values held against one another, bit by bit. Condition: at most 1000 values.
-/
import Derived.Test.YtbmbgfmhejahjaaColumn
namespace Go.Proofs.Ytbmbgfmhejahjaa
open Go.RowKit

theorem eq_of_getD {l k : List Nat} (h : l.length = k.length) (hj : ∀ j, j < l.length → l.getD j 0 = k.getD j 0) : l = k := by
  apply List.ext_getElem h
  intro j h1 h2
  have := hj j h1
  simpa [List.getD_eq_getElem?_getD, h1, h2] using this

set_option maxHeartbeats 1000000 in
theorem refSame_any (a a2 : Option Addr) (cap cap2 n n2 : Nat) (l k : List Nat) (hn : l.length = n) (hn2 : k.length = n2) (hb : n ≤ 1000) (hb2 : n2 ≤ 1000) (w : World) (hr : HoldsE KF w a l) (hr2 : HoldsE KF w a2 k) :
    Calls Try.prog 18 #[.slice a n cap, .slice a2 n2 cap2] w fun e w' => e = .returned (.bool (decide (l = k))) ∧ Below w.heap.size w w' := by
  by_cases hnn : n = n2
  · subst hnn
    go_enter Try.func18, Try.ntmps18
    go_wp2_with fail
    go_loopw [5] (fun i wr => ∃ j : Nat, j ≤ n ∧ i = .int .i64 (j : Int) ∧ Below w.heap.size w wr ∧ Hid (∀ t, t < j → l.getD t 0 = k.getD t 0)) (fun i _ => n - (intOf i).toNat)
    case atStart => exact ⟨0, by omega, rfl, Below.refl _ _, fun t ht => by omega⟩
    case round =>
      obtain ⟨j, hj, rfl, hB, HE⟩ := hrel
      by_cases hlt : j < n
      · obtain ⟨g, off, rfl, hg, hrow⟩ : ∃ g off, a = some ⟨g, off, none⟩ ∧ g < w.heap.size ∧ ∀ j, j < l.length → w.cell? ⟨g, off + j, none⟩ = some (.float .f64 (l.getD j 0)) := by
          rcases hr with rfl | h'
          · simp at hn; omega
          · exact h'
        obtain ⟨g2, off2, rfl, hg2, hrow2⟩ : ∃ g off, a2 = some ⟨g, off, none⟩ ∧ g < w.heap.size ∧ ∀ j, j < k.length → w.cell? ⟨g, off + j, none⟩ = some (.float .f64 (k.getD j 0)) := by
          rcases hr2 with rfl | h'
          · simp at hn2; omega
          · exact h'
        obtain ⟨x, HX⟩ : ∃ x, Hid (l.getD j 0 = x) := ⟨_, rfl⟩
        obtain ⟨y, HY⟩ : ∃ y, Hid (k.getD j 0 = y) := ⟨_, rfl⟩
        have c1 : wr.cell? ⟨g, off + j, none⟩ = some (.float .f64 x) := by rw [← HX.out]; exact (hB.cell (by exact hg)).trans (hrow j (by omega))
        have c2 : wr.cell? ⟨g2, off2 + j, none⟩ = some (.float .f64 y) := by rw [← HY.out]; exact (hB.cell (by exact hg2)).trans (hrow2 j (by omega))
        have HB : Hid (∀ n, Below w.heap.size w (wr.drewN n)) := fun n => ⟨hB.os, hB.tape, hB.output, hB.size, hB.block⟩
        have hj0 : (0 : Int) ≤ (j : Int) := by omega
        have hj1 : (j : Int) < (n : Int) := by omega
        have ht : ∀ (b : Nat) (w : World), (callFunc 19 #[.float .f64 b]).run Try.prog w = .ok (.value (.int .u64 (b : Int))) w := tob
        have HN := Lib.hid (And.intro hn hn2)
        clear hr hr2 hrow hrow2 hB hn hn2
        by_cases hxy : x = y
        · have HE2 : Hid (∀ t, t < j + 1 → l.getD t 0 = k.getD t 0) := fun t ht => by
            by_cases e : t = j
            · subst e; rw [HX.out, HY.out, hxy]
            · exact HE.out t (by omega)
          subst hxy
          clear HE
          go_wp2_with fail
          go_quiet (fail)
          go_wp2_with fail
          go_roundw
          case rel => exact ⟨j + 1, by omega, by go_num, HB.out _, HE2⟩
          case measure => simp [intOf]; omega
        · have hne : decide (l = k) = false := decide_eq_false (fun h => hxy (by rw [← HX.out, ← HY.out, h]))
          have hxb : ((x : Int) != (y : Int)) = true := by simp; omega
          go_wp2_with fail
          go_quiet (fail)
          go_wp2_with fail
          go_ret
          exact ⟨congrArg (fun b => Ending.returned (.bool b)) hne.symm, HB.out _⟩
      · have hd : decide (l = k) = true := decide_eq_true (eq_of_getD (by omega) (fun t ht => HE.out t (by omega)))
        clear hn hn2
        go_wp2_with fail
        go_ret
        exact ⟨congrArg (fun b => Ending.returned (.bool b)) hd.symm, hB⟩
  · have hnb : ((n : Int) == (n2 : Int)) = false := by simp; omega
    have hne : decide (l = k) = false := decide_eq_false (fun h => hnn (by rw [← hn, ← hn2, h]))
    clear hn hn2
    go_enter Try.func18, Try.ntmps18
    go_wp2_with fail
    go_ret
    exact ⟨congrArg (fun b => Ending.returned (.bool b)) hne.symm, Below.refl _ _⟩

end Go.Proofs.Ytbmbgfmhejahjaa
