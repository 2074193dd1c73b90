/-
  BinsOrder holds: for every dataset the law returns true and leaves its argument as it reads: of two rows the one whose value stands ahead has no greater bin; the same value has the same bin. No condition.
-/
import Derived.Test.YtjaogmbeoldefaaOrdW
import Derived.Test.YtjaogmbeoldefaaArgsQ
import Derived.Carry
namespace Go.Proofs.Ytjaogmbeoldefaa
open Go.ChangeShapes Go.WideShapes Go.ChangeAt Go.RowKit

set_option maxRecDepth 100000 in
theorem binsOrder_lifted (os : Os) (started : os.Started) (H : Type) (enc : TypeId × Value → H) :
    ReturnsInHanded {} Try.checked os 7 .any (Rows.binsOrderSpec.pre6 enc Try.prog Try.f7 Rows.binsOrderRow.domain false)
      (Rows.binsOrderSpec.post enc Try.prog Try.f7 false true false false) := by
  refine returnsInHanded_of_change (C := Try.checked) own started (by kernel_rfl) Try.func7
    (ChangeSpec.witness6 (enc := enc) (C := Try.checked) false ⟨#[], #[.agg #[.int .i64 0, .int .i64 0, .int .i64 0, .int .i64 0, .int .i64 0, .int .i64 0, .int .i64 0, .int .i64 0, .int .i64 0, .slice none 0 0, .slice none 0 0]], []⟩ 8 (by kernel_rfl) (by kernel_rfl) (by kernel_rfl) (by kernel_rfl)) ?_
  intro W base args ds gs before hval0 hW _ _
  have hval : ∀ (j : Nat) t v, Try.f7.params[j]? = some t → args[j]? = some v → Value.okWide Try.prog W .any base t v := hval0
  have hW' := hW
  obtain ⟨p, q, hA0, hV, rfl, hfz, hnd⟩ := hW
  have hA : DataW.TrodAll enc Try.prog W 0 (fun _ => true) true Try.f7.params.toList args.toList ds p := hA0
  rw [Try.params7] at hA hval
  obtain ⟨v0, vs0, d0, ds0, p0, q0, hargs, rfl, rfl, h0, r0⟩ := trodAll_cons hA
  obtain ⟨rfl, rfl, rfl⟩ := trodAll_nil r0
  obtain rfl : args = #[v0] := by cases args; simp_all
  obtain ⟨rfl, rfl⟩ := trodVars_none hV
  have lt0 : ∀ x ∈ p0, x.block < W.heap.size := by obtain ⟨m, hm⟩ := h0; exact DataW.trod_lt m _ _ _ hm
  obtain ⟨ck, cc, cb, ct, cd, cl, cp, cr, cq, aV, aT, nV, cV, nT, cT, V, T, rfl, hVl, hTl, hVc, hTc, hr, hq, hV, hT, hV64, hT64⟩ := open_plain (hval 0 27 v0 rfl rfl) h0
  clear hA0 hval0
  have hwalk : Calls Try.prog 7 #[ds ck cc cb ct cd cl cp cr cq (.slice aV nV cV) (.slice aT nT cT)] W fun e w' => e = .returned (.bool true) ∧ Below W.heap.size W w' := by
    by_cases hg : (500 < nV ∨ 200 < nT) ∨ 1000 < cq ∨ 1000 < cr
    · exact ord_great ck cc cb ct cd cl cp cr cq aV aT nV cV nT cT hg W
    · exact ord_any ck cc cb ct cd cl cp cr cq aV aT nV cV nT cT V T hVl hTl hTc hV64 (fun h => hg (.inl h)) (fun h => hg (.inr (.inl h))) (fun h => hg (.inr (.inr h))) W hV hT
  refine hwalk.mono fun e W' ⟨he, bel⟩ => ?_
  subst he
  exact ⟨_, rfl, _, _, _, [], _, [], hW', trodAll_cons_mk (shut_bool Try.underlying4 _) trodAll_mk0,
    (trodAll_cons_mk (Below.trod laidOut (by kernel_rfl) (of_decide_eq_true (by kernel_rfl)) h0 bel lt0) trodAll_mk0), rfl, bel.frame _, fun h => by cases h⟩

theorem binsOrder_holds : Rows.BinsOrderSaid :=
  OpenClaim.holds_of_wide 7 Try.f7 rfl rfl rfl rfl rfl rfl rfl ⟨rfl, rfl, rfl, rfl, rfl⟩ rfl rfl rfl rfl rfl (by kernel_rfl) Try.func7 (by kernel_rfl)
    (of_decide_eq_true (by kernel_rfl)) (by unfold Func.isWrapper; rw [if_neg (of_decide_eq_false (by kernel_rfl))]; exact ⟨rfl, rfl⟩)
    (fun os started H enc _ => binsOrder_lifted os started H enc)
#print axioms binsOrder_holds
end Go.Proofs.Ytjaogmbeoldefaa
