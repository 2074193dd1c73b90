/-
  HISTOGRAMS: the chapter's example; is that more than is gone through? No condition.
-/
import Derived.Test.YtdpcplhmnpglgaaHisK
namespace Go.Proofs.Ytdpcplhmnpglgaa
open Go.RowKit

theorem great_any (k b c : Int) (ac am : Option Addr) (nc cc nm cm : Nat) (w : World) :
    Calls Try.prog 16 #[.agg #[.int .i64 k, .int .i64 b, .int .i64 c, .slice ac nc cc, .slice am nm cm]] w fun e w' => e = .returned (.bool (decide (1000 < nc ∨ 300 < nm))) ∧ Below w.heap.size w w' := by
  have hB : Hid (Below w.heap.size w (w.alloc (.cells #[.int .i64 k, .int .i64 b, .int .i64 c, .slice ac nc cc, .slice am nm cm] 29))) := alloc_below _ _
  by_cases h1 : 1000 < nc
  · have HD : Hid (decide (1000 < nc ∨ 300 < nm) = true) := by show _ = _; simp [h1]
    rw [HD.out]
    have i1 : (1000 : Int) < (nc : Int) := by omega
    clear h1
    go_enter Try.func16, Try.ntmps16
    go_wp2_with fail
    go_ret
    exact ⟨rfl, hB.out⟩
  · have i1 : ¬ (1000 : Int) < (nc : Int) := by omega
    by_cases h2 : 300 < nm
    · have HD : Hid (decide (1000 < nc ∨ 300 < nm) = true) := by show _ = _; simp [h2]
      rw [HD.out]
      have i2 : (300 : Int) < (nm : Int) := by omega
      clear h1 h2
      go_enter Try.func16, Try.ntmps16
      go_wp2_with fail
      go_ret
      exact ⟨rfl, hB.out⟩
    · have HD : Hid (decide (1000 < nc ∨ 300 < nm) = false) := by show _ = _; simp [h1, h2]
      rw [HD.out]
      have i2 : ¬ (300 : Int) < (nm : Int) := by omega
      clear h1 h2
      go_enter Try.func16, Try.ntmps16
      go_wp2_with fail
      go_ret
      exact ⟨rfl, hB.out⟩

theorem fixed_add : addE ⟨1, 2, 0, [], [0, 0, 0, 0, 0, 0]⟩ 1 3 2 = 0 := by decide
theorem fixed_is : addD ⟨1, 2, 0, [], [0, 0, 0, 0, 0, 0]⟩ 1 3 2 = ⟨1, 2, 0, [], [0, 0, 0, 2, 6, 18]⟩ := by rfl

theorem fixed_any (w : World) : Calls Try.prog 9 #[] w fun e w' => e = .returned (.bool true) ∧ Below w.heap.size w w' := by
  have hN := fun w => new_yes 1 2 0 0 2 (by decide) (by decide) (by decide) w
  go_enter Try.func9, Try.ntmps9
  go_wp2_with fail
  refine (hN _).mono ?_
  rintro e W1 ⟨g, m, rfl, hG, hM, hg, hm, hgm, c1⟩
  have bH := VarH.new W1 1 2 0 (.slice (some ⟨g, 0, none⟩) 0 0) (.slice (some ⟨m, 0, none⟩) 2 2) 29
  clear hN
  go_upto_region 2 with fail
  have c2 := alloc_below W1 (.cells #[.int .i64 1, .int .i64 2, .int .i64 0, .slice (some ⟨g, 0, none⟩) 0 0, .slice (some ⟨m, 0, none⟩) 2 2] 29)
  have l1 := hG.lt
  have l2 := hM.lt
  generalize W1.alloc (.cells #[.int .i64 1, .int .i64 2, .int .i64 0, .slice (some ⟨g, 0, none⟩) 0 0, .slice (some ⟨m, 0, none⟩) 2 2] 29) = W2 at *
  have hK : Kept W1.heap.size g m ⟨1, 2, 0, [], [0, 0, 0, 0, 0, 0]⟩ W2 := NewP.kept bH (hG.below c2 l1) (hM.below c2 l2) hgm (by omega) (by omega)
  have hA := add_any W1.heap.size g m _ 1 3 2 ⟨by decide, by decide⟩ ⟨by decide, by decide⟩ W2 hK
  unfold AddsP at hA
  rw [fixed_add, fixed_is] at hA
  have HC := Lib.hid (c1.trans (c2.mono c1.size))
  have HG := Lib.hid (And.intro hg hm)
  have l3 := c1.size
  clear bH c1 c2 hG hM hg hm
  go_wp2_with fail
  refine hA.mono ?_
  rintro e W3 ⟨rfl, ⟨C, M, hv, hr, _, _, _⟩, hb⟩
  rcases hr with ⟨h0, _, _⟩ | ⟨nm, cc, cm, rfl, rfl, e3, e4, e5, L1, L2⟩
  · simp [zD] at h0
  have hnm : nm = 2 := by simp at e3; omega
  subst hnm
  obtain ⟨a0, a1, a2, a3, a4⟩ := hv.five
  obtain ⟨_, m0, m1, m2⟩ := L2.atM 1 (by simp)
  simp at m0 m1 m2
  have HF := Lib.hid (HC.out.trans (hb.below HG.out.1 HG.out.2 HC.out.size))
  clear hA hK hv e3 e4 e5 L1 L2 hb l1 l2 l3 hgm
  go_wp2_with fail
  go_ret
  exact ⟨rfl, HF.out⟩
end Go.Proofs.Ytdpcplhmnpglgaa
