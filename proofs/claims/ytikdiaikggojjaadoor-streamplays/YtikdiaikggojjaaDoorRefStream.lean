/-
  THE DOCUMENT'S OWN KEY, ITS NUMBERS, AND A ROW OF THEM: they answer the fold, the i-th number, and the first n numbers in a row of the call's own, and turn no memory that was there. Condition: no more than 900 numbers.
-/
import Derived.Test.YtikdiaikggojjaaDoorRefFold
import Derived.Test.YtikdiaikggojjaaDoorStream
namespace Go.Proofs.YtikdiaikggojjaaDoor
open Go.RowKit

set_option maxHeartbeats 400000 in
theorem refAt_any (k i : Int) (w : World) :
    Calls Tryd.prog 8 #[.int .u64 k, .int .u64 i] w fun e w' => e = .returned (.int .u64 (atI k i)) ∧ w = w' := by
  go_enter Tryd.func8, Tryd.ntmps8
  go_wp2_with fail
  refine (refMix_any _ _).mono ?_
  rintro e w1 ⟨rfl, rfl⟩
  go_wp2_with fail
  refine (refMix_any _ _).mono ?_
  rintro e w2 ⟨rfl, rfl⟩
  go_wp2_with fail
  go_ret
  exact ⟨rfl, rfl⟩

set_option maxHeartbeats 400000 in
theorem refKey_any (a b c d : Int) (w : World) :
    Calls Tryd.prog 6 #[.int .u64 a, .int .u64 b, .int .u64 c, .int .u64 d] w fun e w' => e = .returned (.int .u64 (foldI [a, b, c, d])) ∧ Below w.heap.size w w' := by
  go_enter Tryd.func6, Tryd.ntmps6
  go_wp2_with fail
  refine (refFold_any _ _ 4 [a, b, c, d] _ (by decide) rfl (row_four w a b c d)).mono ?_
  rintro e w1 ⟨rfl, rfl⟩
  go_wp2_with fail
  go_ret
  exact ⟨rfl, (Below.refl _ _).alloc (Nat.le_refl _) _⟩

/-- The first n numbers of a key. -/
def rowI (k : Int) (n : Nat) : List Int := (List.range n).map fun (i : Nat) => atI k (i : Int)
theorem rowI_length (k : Int) (n : Nat) : (rowI k n).length = n := by simp [rowI]
theorem rowI_next (k : Int) (n : Nat) : rowI k n ++ [atI k (n : Int)] = rowI k (n + 1) := by simp [rowI, List.range_succ]
theorem rowI_at (k : Int) (n j : Nat) (h : j < n) : (rowI k n).getD j 0 = atI k (j : Int) := by
  unfold rowI
  simp [List.getD_eq_getElem?_getD, h]

set_option maxHeartbeats 400000 in
theorem refRow_any (k : Int) (n : Nat) (hn : n ≤ 900) (w : World) :
    Calls Tryd.prog 10 #[.int .u64 k, .int .i64 n] w fun e w' => (∃ a cap, e = .returned (.slice a n cap) ∧ OwnRow w' w.heap.size (.slice a n cap) (rowI k n)) ∧ Below w.heap.size w w' := by
  go_enter Tryd.func10, Tryd.ntmps10
  go_wp2_with fail
  go_loopw [5, 6] (fun s i wr => ∃ (j : Nat) (a : Option Addr) (cap : Nat), j ≤ n ∧ i = .int .i64 j ∧ s = .slice a j cap ∧ Below w.heap.size w wr ∧ OwnRow wr w.heap.size (.slice a j cap) (rowI k j)) (fun _ i _ => n - (intOf i).toNat)
  case atStart => exact ⟨0, _, _, by omega, rfl, rfl, (Below.refl _ w).alloc (Nat.le_refl _) _, OwnRow.start w _ (Nat.le_refl _)⟩
  case round =>
    obtain ⟨j, a, cap, hj, rfl, rfl, hB, hO⟩ := hrel
    have hl := rowI_length k j
    by_cases hlt : j < n
    · have hu : IntKind.u64.wrap (j : Int) = (j : Int) := by rw [IntKind.wrap_u64]; omega
      go_wp2_with fail
      refine (refAt_any _ _ _).mono ?_
      rintro e w1 ⟨rfl, rfl⟩
      have hs := hB.size
      go_wp2_with (
        at_builtin
        refine app_row ?hw (.tmp 13) (.tmp 18) rfl w.heap.size ?hB (.slice a j cap) (rowI k j) rfl (hO.alloc _) _ _ _ [atI k j] rfl (Came.new _) ?hm ?_
        case hw => rfl
        case hB => simp; omega
        case hm => simp; omega
        intro v1 w1 o1 b1
        have hB1 := (hB.alloc hs _).trans b1
        rw [rowI_next] at o1
        obtain ⟨a1, cp1, ev, _⟩ := o1.slice
        rw [rowI_length] at ev
        subst ev
        have HO := Lib.hid o1
        clear o1 b1 hB hO)
      go_roundw
      case rel => exact ⟨j + 1, a1, cp1, by omega, by go_num, rfl, hB1, HO.out⟩
      case measure => simp [intOf]; omega
    · have HJ : Hid (j = n) := by show j = n; omega
      go_wp2
      go_ret
      exact ⟨⟨a, cap, by rw [← HJ.out]; rfl, by rw [← HJ.out]; exact hO⟩, hB⟩
end Go.Proofs.YtikdiaikggojjaaDoor
