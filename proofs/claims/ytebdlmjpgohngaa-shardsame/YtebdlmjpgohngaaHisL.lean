/-
  HISTOGRAMS: the chapter's example; is that more than is gone through? No condition.
-/
import Derived.Test.YtebdlmjpgohngaaHisK
namespace Go.Proofs.Ytebdlmjpgohngaa
open Go.RowKit

theorem great_any (k b c : Int) (ac am : Option Addr) (nc cc nm cm : Nat) (w : World) :
    Calls Try.prog 11 #[.agg #[.int .i64 k, .int .i64 b, .int .i64 c, .slice ac nc cc, .slice am nm cm]] w fun e w' => e = .returned (.bool (decide (1000 < nc ∨ 300 < nm))) ∧ Below w.heap.size w w' := by
  have hB : Hid (Below w.heap.size w (w.alloc (.cells #[.int .i64 k, .int .i64 b, .int .i64 c, .slice ac nc cc, .slice am nm cm] 45))) := alloc_below _ _
  by_cases h1 : 1000 < nc
  · have HD : Hid (decide (1000 < nc ∨ 300 < nm) = true) := by show _ = _; simp [h1]
    rw [HD.out]
    have i1 : (1000 : Int) < (nc : Int) := by omega
    clear h1
    go_enter Try.func11, Try.ntmps11
    go_wp2_with fail
    go_ret
    exact ⟨rfl, hB.out⟩
  · have i1 : ¬ (1000 : Int) < (nc : Int) := by omega
    by_cases h2 : 300 < nm
    · have HD : Hid (decide (1000 < nc ∨ 300 < nm) = true) := by show _ = _; simp [h2]
      rw [HD.out]
      have i2 : (300 : Int) < (nm : Int) := by omega
      clear h1 h2
      go_enter Try.func11, Try.ntmps11
      go_wp2_with fail
      go_ret
      exact ⟨rfl, hB.out⟩
    · have HD : Hid (decide (1000 < nc ∨ 300 < nm) = false) := by show _ = _; simp [h1, h2]
      rw [HD.out]
      have i2 : ¬ (300 : Int) < (nm : Int) := by omega
      clear h1 h2
      go_enter Try.func11, Try.ntmps11
      go_wp2_with fail
      go_ret
      exact ⟨rfl, hB.out⟩

theorem fixed_add : addE ⟨1, 2, 0, [], [0, 0, 0, 0, 0, 0]⟩ 1 3 2 = 0 := by decide
theorem fixed_is : addD ⟨1, 2, 0, [], [0, 0, 0, 0, 0, 0]⟩ 1 3 2 = ⟨1, 2, 0, [], [0, 0, 0, 2, 6, 18]⟩ := by rfl

end Go.Proofs.Ytebdlmjpgohngaa
