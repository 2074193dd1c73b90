/-
  ShardHists holds: for every sample and whatever is asked the law returns true and leaves its arguments as they read: a sample's histogram, of any column and rows, and merged of any parts, is the document's, and so is its error. No condition.
-/
import Derived.Test.YtebdlmjpgohngaaMgD
import Derived.Test.YtebdlmjpgohngaaMgE
import Derived.Carry
namespace Go.Proofs.Ytebdlmjpgohngaa
open Go.ChangeShapes Go.WideShapes Go.ChangeAt Go.RowKit

set_option maxRecDepth 100000 in
theorem shardHists_lifted (os : Os) (started : os.Started) (H : Type) (enc : TypeId × Value → H) :
    ReturnsInHanded {} Try.checked os 5 .any (Rows.shardHistsSpec.pre6 enc Try.prog Try.f5 Rows.shardHistsRow.domain false)
      (Rows.shardHistsSpec.post enc Try.prog Try.f5 false true false false) := by
  refine returnsInHanded_of_change (C := Try.checked) own started (by kernel_rfl) Try.func5
    (ChangeSpec.witness6 (enc := enc) (C := Try.checked) false ⟨#[], #[.agg #[.int .i64 0, .int .i64 0, .int .i64 0, .int .i64 0, .int .i64 0, .int .i64 0, .int .i64 0, .int .i64 0, .int .i64 0, .slice none 0 0, .slice none 0 0, .slice none 0 0], .agg #[.int .i64 0, .slice none 0 0, .int .i64 0]], []⟩ 8 (by kernel_rfl) (by kernel_rfl) (by kernel_rfl) (by kernel_rfl)) ?_
  intro W base args ds gs before hval0 hW _ _
  have hval : ∀ (j : Nat) t v, Try.f5.params[j]? = some t → args[j]? = some v → Value.okWide Try.prog W .any base t v := hval0
  have hW' := hW
  obtain ⟨p, q, hA0, hV, rfl, hfz, hnd⟩ := hW
  have hA : DataW.TrodAll enc Try.prog W 0 (fun _ => true) true Try.f5.params.toList args.toList ds p := hA0
  rw [Try.params5] at hA hval
  obtain ⟨v0, vs0, d0, ds0, p0, q0, hargs, rfl, rfl, h0, r0⟩ := trodAll_cons hA
  obtain ⟨v1, vs1, d1, ds1, p1, q1, rfl, rfl, rfl, h1, r1⟩ := trodAll_cons r0
  obtain ⟨rfl, rfl, rfl⟩ := trodAll_nil r1
  obtain rfl : args = #[v0, v1] := by cases args; simp_all
  obtain ⟨rfl, rfl⟩ := trodVars_none hV
  have lt0 : ∀ x ∈ p0, x.block < W.heap.size := by obtain ⟨m, hm⟩ := h0; exact DataW.trod_lt m _ _ _ hm
  obtain ⟨s, aC, aT, aW, cC, cT, cW, rfl, hC, hT, hWt, h16, wT, wW, wc, wb⟩ := open_sample (hval 0 38 v0 rfl rfl) h0
  have lt1 : ∀ x ∈ p1, x.block < W.heap.size := by obtain ⟨m, hm⟩ := h1; exact DataW.trod_lt m _ _ _ hm
  obtain ⟨col, parts, aR, cR, R, rfl, hRc, hRn, hR, wR⟩ := open_asked (hval 1 40 v1 rfl rfl) h1
  clear hA0 hval0
  have hwalk : Calls Try.prog 5 #[.agg (smpA s.k s.c s.b s.t s.d s.l s.p s.r s.q (.slice aC s.C.length cC) (.slice aT s.T.length cT) (.slice aW s.W.length cW)), .agg #[.int .i64 col, .slice aR R.length cR, .int .i64 parts]] W fun e w' => e = .returned (.bool true) ∧ Below W.heap.size W w' := by
    by_cases hg : 600 < s.C.length ∨ 200 < s.T.length ∨ 200 < s.W.length
    · exact hists_great s aC aT aW aR cC cT cW R.length cR col parts W hg
    · by_cases hm : 100 < R.length
      · exact hists_many s aC aT aW aR cC cT cW R.length cR col parts W hg hm
      · exact hists_rest s aC aT aW aR cC cT cW R.length cR col parts R rfl W ⟨hC, hT, hWt, h16, wT, wW, by omega⟩ hR hRc hRn wb wc hg hm
  refine hwalk.mono fun e W' ⟨he, bel⟩ => ?_
  subst he
  exact ⟨_, rfl, _, _, _, [], _, [], hW', trodAll_cons_mk (shut_bool Try.underlying4 _) trodAll_mk0,
    (trodAll_cons_mk (Below.trod laidOut (by kernel_rfl) (of_decide_eq_true (by kernel_rfl)) h0 bel lt0) (trodAll_cons_mk (Below.trod laidOut (by kernel_rfl) (of_decide_eq_true (by kernel_rfl)) h1 bel lt1) trodAll_mk0)), rfl, bel.frame _, fun h => by cases h⟩

theorem shardHists_holds : Rows.ShardHistsSaid :=
  OpenClaim.holds_of_wide 5 Try.f5 rfl rfl rfl rfl rfl rfl rfl ⟨rfl, rfl, rfl, rfl, rfl⟩ rfl rfl rfl rfl rfl (by kernel_rfl) Try.func5 (by kernel_rfl)
    (of_decide_eq_true (by kernel_rfl)) (by unfold Func.isWrapper; rw [if_neg (of_decide_eq_false (by kernel_rfl))]; exact ⟨rfl, rfl⟩)
    (fun os started H enc _ => shardHists_lifted os started H enc)
#print axioms shardHists_holds
end Go.Proofs.Ytebdlmjpgohngaa
