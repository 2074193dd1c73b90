/-
  DatasetParts holds: for every dataset and number the law returns true and leaves its arguments as they read. No condition.
-/
import Derived.Test.YtbmbgfmhejahjaaPartsA
import Derived.Test.YtbmbgfmhejahjaaPartsW
import Derived.Test.YtbmbgfmhejahjaaArgsP
import Derived.Carry
namespace Go.Proofs.Ytbmbgfmhejahjaa
open Go.ChangeShapes Go.WideShapes Go.ChangeAt Go.RowKit

set_option maxRecDepth 100000 in
theorem datasetParts_lifted (os : Os) (started : os.Started) (H : Type) (enc : TypeId × Value → H) :
    ReturnsInHanded {} Try.checked os 6 .any (Rows.datasetPartsSpec.pre6 enc Try.prog Try.f6 Rows.datasetPartsRow.domain false)
      (Rows.datasetPartsSpec.post enc Try.prog Try.f6 false true false false) := by
  refine returnsInHanded_of_change (C := Try.checked) own started (by kernel_rfl) Try.func6
    (ChangeSpec.witness6 (enc := enc) (C := Try.checked) false ⟨#[], #[.agg #[.int .i64 0, .int .i64 0, .int .i64 0, .int .i64 0, .int .i64 0, .int .i64 0, .int .i64 0, .int .i64 0, .int .i64 0, .slice none 0 0, .slice none 0 0], .int .i64 0], []⟩ 8 (by kernel_rfl) (by kernel_rfl) (by kernel_rfl) (by kernel_rfl)) ?_
  intro W base args ds gs before hval0 hW _ _
  have hval : ∀ (j : Nat) t v, Try.f6.params[j]? = some t → args[j]? = some v → Value.okWide Try.prog W .any base t v := hval0
  have hW' := hW
  obtain ⟨p, q, hA0, hV, rfl, hfz, hnd⟩ := hW
  have hA : DataW.TrodAll enc Try.prog W 0 (fun _ => true) true Try.f6.params.toList args.toList ds p := hA0
  rw [Try.params6] at hA hval
  obtain ⟨v0, vs0, d0, ds0, p0, q0, hargs, rfl, rfl, h0, r0⟩ := trodAll_cons hA
  obtain ⟨v1, vs1, d1, ds1, p1, q1, rfl, rfl, rfl, h1, r1⟩ := trodAll_cons r0
  obtain ⟨rfl, rfl, rfl⟩ := trodAll_nil r1
  obtain rfl : args = #[v0, v1] := by cases args; simp_all
  obtain ⟨rfl, rfl⟩ := trodVars_none hV
  have lt0 : ∀ x ∈ p0, x.block < W.heap.size := by obtain ⟨m, hm⟩ := h0; exact DataW.trod_lt m _ _ _ hm
  obtain ⟨ck, cc, cb, ct, cd, cl, cp, cr, cq, aV, aT, nV, cV, nT, cT, V, T, rfl, hVl, hTl, hVc, hTc, hr, hq, hV, hT, hV64, hT64⟩ := open_plain (hval 0 27 v0 rfl rfl) h0
  obtain ⟨a1, rfl, rfl, rfl, w1⟩ := open_int Try.underlying3 (hval 1 3 v1 rfl rfl) h1
  clear hA0 hval0
  have hwalk : Calls Try.prog 6 #[ds ck cc cb ct cd cl cp cr cq (.slice aV nV cV) (.slice aT nT cT), .int .i64 a1] W fun e w' => e = .returned (.bool true) ∧ Below W.heap.size W w' := by
    by_cases hgr : 500 < nV ∨ 200 < nT
    · exact parts_great ck cc cb ct cd cl cp cr cq a1 aV aT nV cV nT cT hgr W
    by_cases hs : cr < 0 ∨ cq < 0 ∨ cr > 1000 ∨ cq > 1000 ∨ ¬ (nV : Int) = cr * cq
    · exact parts_wrong ck cc cb ct cd cl cp cr cq a1 aV aT nV cV nT cT V T hVl hTl hTc hr hq hgr hs W hV hT
    have hr0 : 0 ≤ cr := Int.not_lt.mp fun h => hs (.inl h)
    have hq0 : 0 ≤ cq := Int.not_lt.mp fun h => hs (.inr (.inl h))
    obtain ⟨r, rfl⟩ := Int.eq_ofNat_of_zero_le hr0
    obtain ⟨q, rfl⟩ := Int.eq_ofNat_of_zero_le hq0
    have hm : (nV : Int) = (r : Int) * (q : Int) := Decidable.of_not_not fun h => hs (.inr (.inr (.inr (.inr h))))
    exact parts_right ck cc cb ct cd cl cp r q a1 aV aT nV cV nT cT V T hVl hTl hTc hV64 hgr (by omega) (by omega) (by rw [← Int.natCast_mul] at hm; omega) W hV hT
  refine hwalk.mono fun e W' ⟨he, bel⟩ => ?_
  subst he
  exact ⟨_, rfl, _, _, _, [], _, [], hW', trodAll_cons_mk (shut_bool Try.underlying4 _) trodAll_mk0,
    (trodAll_cons_mk (Below.trod laidOut (by kernel_rfl) (of_decide_eq_true (by kernel_rfl)) h0 bel lt0) (trodAll_cons_mk (shut_int Try.underlying3 w1) trodAll_mk0)), rfl, bel.frame _, fun h => by cases h⟩

theorem datasetParts_holds : Rows.DatasetPartsSaid :=
  OpenClaim.holds_of_wide 6 Try.f6 rfl rfl rfl rfl rfl rfl rfl ⟨rfl, rfl, rfl, rfl, rfl⟩ rfl rfl rfl rfl rfl (by kernel_rfl) Try.func6 (by kernel_rfl)
    (of_decide_eq_true (by kernel_rfl)) (by unfold Func.isWrapper; rw [if_neg (of_decide_eq_false (by kernel_rfl))]; exact ⟨rfl, rfl⟩)
    (fun os started H enc _ => datasetParts_lifted os started H enc)
#print axioms datasetParts_holds
end Go.Proofs.Ytbmbgfmhejahjaa
