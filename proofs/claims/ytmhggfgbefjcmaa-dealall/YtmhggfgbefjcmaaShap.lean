/-
  What the world's shape gives of the table of rounds: nine numbers of 64 bits. No condition.
-/
import Derived.Test.YtmhggfgbefjcmaaMixAny
import Derived.HandedShaped
namespace Go.Proofs.Ytmhggfgbefjcmaa
open Go.RowKit

theorem zero9 : ((begin Try.prog (fun _ _ => 0) default).world.heap[0]?).bind Obj.row? = some (#[.int .u64 0, .int .u64 0, .int .u64 0, .int .u64 0, .int .u64 0, .int .u64 0, .int .u64 0, .int .u64 0, .int .u64 0], 108) := by kernel_rfl
theorem types9 : Try.prog.cellTypes Try.prog.depth 108 = some [67, 38, 38, 67, 38, 38, 67, 38, 38] := by kernel_rfl
theorem built9 : Try.prog.buildable 108 = true := by kernel_rfl

theorem cell_u64 {w : World} {t : TypeId} {v : Value} (h : Cell.ok Try.prog w .any 0 t v) (hu : Try.prog.underlying t = some (.int .u64)) : ∃ x : Int, v = .int .u64 x ∧ 0 ≤ x := by
  unfold Cell.ok at h
  rw [hu] at h
  cases v <;> simp at h
  case int k x =>
    obtain ⟨rfl, h2⟩ := h
    refine ⟨x, rfl, ?_⟩
    have h3 := h2.1
    simpa [IntKind.min, IntKind.signed] using h3

theorem rounds_shaped {w : World} (h : w.ShapedOpen Try.prog) : ∃ (r : R3) (t : TypeId) (fr : Nat × Nat), r.ok ∧ w.heap[0]? = some (.cells r.cells t fr) := by
  obtain ⟨cs, hh, hs, hr⟩ := h.1 _ _ _ (of_decide_eq_true (by kernel_rfl)) zero9
  obtain ⟨ts, hts, _, hall⟩ := hr built9
  rw [types9] at hts
  cases hts
  obtain ⟨l⟩ := cs
  match l, hs with
  | [c0, c1, c2, c3, c4, c5, c6, c7, c8], _ =>
    obtain ⟨v0, e0, k0⟩ := hall 0 c0 rfl
    obtain ⟨v1, e1, k1⟩ := hall 1 c1 rfl
    obtain ⟨v2, e2, k2⟩ := hall 2 c2 rfl
    obtain ⟨v3, e3, k3⟩ := hall 3 c3 rfl
    obtain ⟨v4, e4, k4⟩ := hall 4 c4 rfl
    obtain ⟨v5, e5, k5⟩ := hall 5 c5 rfl
    obtain ⟨v6, e6, k6⟩ := hall 6 c6 rfl
    obtain ⟨v7, e7, k7⟩ := hall 7 c7 rfl
    obtain ⟨v8, e8, k8⟩ := hall 8 c8 rfl
    simp at e0 e1 e2 e3 e4 e5 e6 e7 e8
    subst e0 e1 e2 e3 e4 e5 e6 e7 e8
    obtain ⟨s0, rfl, g0⟩ := cell_u64 k0 Try.underlying67
    obtain ⟨f0, rfl, _⟩ := cell_u64 k1 Try.underlying38
    obtain ⟨u0, rfl, _⟩ := cell_u64 k2 Try.underlying38
    obtain ⟨s1, rfl, g1⟩ := cell_u64 k3 Try.underlying67
    obtain ⟨f1, rfl, _⟩ := cell_u64 k4 Try.underlying38
    obtain ⟨u1, rfl, _⟩ := cell_u64 k5 Try.underlying38
    obtain ⟨s2, rfl, g2⟩ := cell_u64 k6 Try.underlying67
    obtain ⟨f2, rfl, _⟩ := cell_u64 k7 Try.underlying38
    obtain ⟨u2, rfl, _⟩ := cell_u64 k8 Try.underlying38
    exact ⟨⟨s0, f0, u0, s1, f1, u1, s2, f2, u2⟩, _, _, ⟨g0, g1, g2⟩, hh⟩
end Go.Proofs.Ytmhggfgbefjcmaa
