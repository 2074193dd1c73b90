/-
  HistJoins holds: for every two histograms the law returns true and leaves its arguments as they read: what they come to, and what is left of one without the other one, are the document's. No condition.
-/
import Derived.Test.YtdpcplhmnpglgaaArgsH
import Derived.Test.YtdpcplhmnpglgaaHisW
import Derived.Carry
namespace Go.Proofs.Ytdpcplhmnpglgaa
open Go.ChangeShapes Go.WideShapes Go.ChangeAt Go.RowKit

set_option maxRecDepth 100000 in
theorem histJoins_lifted (os : Os) (started : os.Started) (H : Type) (enc : TypeId × Value → H) :
    ReturnsInHanded {} Try.checked os 4 .any (Rows.histJoinsSpec.pre6 enc Try.prog Try.f4 Rows.histJoinsRow.domain false)
      (Rows.histJoinsSpec.post enc Try.prog Try.f4 false true false false) := by
  refine returnsInHanded_of_change (C := Try.checked) own started (by kernel_rfl) Try.func4
    (ChangeSpec.witness6 (enc := enc) (C := Try.checked) false ⟨#[], #[.agg #[.int .i64 0, .int .i64 0, .int .i64 0, .slice none 0 0, .slice none 0 0], .agg #[.int .i64 0, .int .i64 0, .int .i64 0, .slice none 0 0, .slice none 0 0]], []⟩ 8 (by kernel_rfl) (by kernel_rfl) (by kernel_rfl) (by kernel_rfl)) ?_
  intro W base args ds gs before hval0 hW _ _
  have hval : ∀ (j : Nat) t v, Try.f4.params[j]? = some t → args[j]? = some v → Value.okWide Try.prog W .any base t v := hval0
  have hW' := hW
  obtain ⟨p, q, hA0, hV, rfl, hfz, hnd⟩ := hW
  have hA : DataW.TrodAll enc Try.prog W 0 (fun _ => true) true Try.f4.params.toList args.toList ds p := hA0
  rw [Try.params4] at hA hval
  obtain ⟨v0, vs0, d0, ds0, p0, q0, hargs, rfl, rfl, h0, r0⟩ := trodAll_cons hA
  obtain ⟨v1, vs1, d1, ds1, p1, q1, rfl, rfl, rfl, h1, r1⟩ := trodAll_cons r0
  obtain ⟨rfl, rfl, rfl⟩ := trodAll_nil r1
  obtain rfl : args = #[v0, v1] := by cases args; simp_all
  obtain ⟨rfl, rfl⟩ := trodVars_none hV
  have lt0 : ∀ x ∈ p0, x.block < W.heap.size := by obtain ⟨m, hm⟩ := h0; exact DataW.trod_lt m _ _ _ hm
  obtain ⟨D0, ac0, nc0, cc0, am0, nm0, cm0, rfl, hR0, hW0, hC0, hM0, zC0, zM0⟩ := open_hist (hval 0 29 v0 rfl rfl) h0
  have lt1 : ∀ x ∈ p1, x.block < W.heap.size := by obtain ⟨m, hm⟩ := h1; exact DataW.trod_lt m _ _ _ hm
  obtain ⟨D1, ac1, nc1, cc1, am1, nm1, cm1, rfl, hR1, hW1, hC1, hM1, zC1, zM1⟩ := open_hist (hval 1 29 v1 rfl rfl) h1
  clear hA0 hval0
  have hwalk : Calls Try.prog 4 #[.agg #[.int .i64 D0.k, .int .i64 D0.b, .int .i64 D0.c, .slice ac0 nc0 cc0, .slice am0 nm0 cm0], .agg #[.int .i64 D1.k, .int .i64 D1.b, .int .i64 D1.c, .slice ac1 nc1 cc1, .slice am1 nm1 cm1]] W fun e w' => e = .returned (.bool true) ∧ Below W.heap.size W w' := by
    by_cases hg : (1000 < nc0 ∨ 300 < nm0) ∨ (1000 < nc1 ∨ 300 < nm1)
    · exact joins_great D0 D1 ac0 am0 ac1 am1 nc0 cc0 nm0 cm0 nc1 cc1 nm1 cm1 W hR0 hR1 hg
    · exact joins_any D0 D1 ac0 am0 ac1 am1 nc0 cc0 nm0 cm0 nc1 cc1 nm1 cm1 W hR0 hR1 ⟨zC0, zM0⟩ ⟨zC1, zM1⟩ (fun h => hg (.inl h)) (fun h => hg (.inr h))
  refine hwalk.mono fun e W' ⟨he, bel⟩ => ?_
  subst he
  exact ⟨_, rfl, _, _, _, [], _, [], hW', trodAll_cons_mk (shut_bool Try.underlying4 _) trodAll_mk0,
    (trodAll_cons_mk (Below.trod laidOut (by kernel_rfl) (of_decide_eq_true (by kernel_rfl)) h0 bel lt0) (trodAll_cons_mk (Below.trod laidOut (by kernel_rfl) (of_decide_eq_true (by kernel_rfl)) h1 bel lt1) trodAll_mk0)), rfl, bel.frame _, fun h => by cases h⟩

theorem histJoins_holds : Rows.HistJoinsSaid :=
  OpenClaim.holds_of_wide 4 Try.f4 rfl rfl rfl rfl rfl rfl rfl ⟨rfl, rfl, rfl, rfl, rfl⟩ rfl rfl rfl rfl rfl (by kernel_rfl) Try.func4 (by kernel_rfl)
    (of_decide_eq_true (by kernel_rfl)) (by unfold Func.isWrapper; rw [if_neg (of_decide_eq_false (by kernel_rfl))]; exact ⟨rfl, rfl⟩)
    (fun os started H enc _ => histJoins_lifted os started H enc)
#print axioms histJoins_holds
end Go.Proofs.Ytdpcplhmnpglgaa
