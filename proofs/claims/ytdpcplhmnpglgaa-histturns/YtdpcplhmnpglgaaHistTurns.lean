/-
  HistTurns holds: for every three histograms the law returns true and leaves its arguments as they read: what they come to does not hang on the order in which they are merged. No condition.
-/
import Derived.Test.YtdpcplhmnpglgaaArgsH
import Derived.Test.YtdpcplhmnpglgaaHisP
import Derived.Carry
namespace Go.Proofs.Ytdpcplhmnpglgaa
open Go.ChangeShapes Go.WideShapes Go.ChangeAt Go.RowKit

set_option maxRecDepth 100000 in
theorem histTurns_lifted (os : Os) (started : os.Started) (H : Type) (enc : TypeId × Value → H) :
    ReturnsInHanded {} Try.checked os 8 .any (Rows.histTurnsSpec.pre6 enc Try.prog Try.f8 Rows.histTurnsRow.domain false)
      (Rows.histTurnsSpec.post enc Try.prog Try.f8 false true false false) := by
  refine returnsInHanded_of_change (C := Try.checked) own started (by kernel_rfl) Try.func8
    (ChangeSpec.witness6 (enc := enc) (C := Try.checked) false ⟨#[], #[.agg #[.int .i64 0, .int .i64 0, .int .i64 0, .slice none 0 0, .slice none 0 0], .agg #[.int .i64 0, .int .i64 0, .int .i64 0, .slice none 0 0, .slice none 0 0], .agg #[.int .i64 0, .int .i64 0, .int .i64 0, .slice none 0 0, .slice none 0 0]], []⟩ 8 (by kernel_rfl) (by kernel_rfl) (by kernel_rfl) (by kernel_rfl)) ?_
  intro W base args ds gs before hval0 hW _ _
  have hval : ∀ (j : Nat) t v, Try.f8.params[j]? = some t → args[j]? = some v → Value.okWide Try.prog W .any base t v := hval0
  have hW' := hW
  obtain ⟨p, q, hA0, hV, rfl, hfz, hnd⟩ := hW
  have hA : DataW.TrodAll enc Try.prog W 0 (fun _ => true) true Try.f8.params.toList args.toList ds p := hA0
  rw [Try.params8] at hA hval
  obtain ⟨v0, vs0, d0, ds0, p0, q0, hargs, rfl, rfl, h0, r0⟩ := trodAll_cons hA
  obtain ⟨v1, vs1, d1, ds1, p1, q1, rfl, rfl, rfl, h1, r1⟩ := trodAll_cons r0
  obtain ⟨v2, vs2, d2, ds2, p2, q2, rfl, rfl, rfl, h2, r2⟩ := trodAll_cons r1
  obtain ⟨rfl, rfl, rfl⟩ := trodAll_nil r2
  obtain rfl : args = #[v0, v1, v2] := by cases args; simp_all
  obtain ⟨rfl, rfl⟩ := trodVars_none hV
  have lt0 : ∀ x ∈ p0, x.block < W.heap.size := by obtain ⟨m, hm⟩ := h0; exact DataW.trod_lt m _ _ _ hm
  obtain ⟨D0, ac0, nc0, cc0, am0, nm0, cm0, rfl, hR0, hW0, hC0, hM0, zC0, zM0⟩ := open_hist (hval 0 29 v0 rfl rfl) h0
  have lt1 : ∀ x ∈ p1, x.block < W.heap.size := by obtain ⟨m, hm⟩ := h1; exact DataW.trod_lt m _ _ _ hm
  obtain ⟨D1, ac1, nc1, cc1, am1, nm1, cm1, rfl, hR1, hW1, hC1, hM1, zC1, zM1⟩ := open_hist (hval 1 29 v1 rfl rfl) h1
  have lt2 : ∀ x ∈ p2, x.block < W.heap.size := by obtain ⟨m, hm⟩ := h2; exact DataW.trod_lt m _ _ _ hm
  obtain ⟨D2, ac2, nc2, cc2, am2, nm2, cm2, rfl, hR2, hW2, hC2, hM2, zC2, zM2⟩ := open_hist (hval 2 29 v2 rfl rfl) h2
  clear hA0 hval0
  have hwalk : Calls Try.prog 8 #[.agg #[.int .i64 D0.k, .int .i64 D0.b, .int .i64 D0.c, .slice ac0 nc0 cc0, .slice am0 nm0 cm0], .agg #[.int .i64 D1.k, .int .i64 D1.b, .int .i64 D1.c, .slice ac1 nc1 cc1, .slice am1 nm1 cm1], .agg #[.int .i64 D2.k, .int .i64 D2.b, .int .i64 D2.c, .slice ac2 nc2 cc2, .slice am2 nm2 cm2]] W fun e w' => e = .returned (.bool true) ∧ Below W.heap.size W w' := by
    by_cases hg : (1000 < nc0 ∨ 300 < nm0) ∨ (1000 < nc1 ∨ 300 < nm1) ∨ (1000 < nc2 ∨ 300 < nm2)
    · exact turns_great D0 D1 D2 ac0 am0 ac1 am1 ac2 am2 nc0 cc0 nm0 cm0 nc1 cc1 nm1 cm1 nc2 cc2 nm2 cm2 W hR0 hR1 hR2 hg
    · exact turns_any D0 D1 D2 ac0 am0 ac1 am1 ac2 am2 nc0 cc0 nm0 cm0 nc1 cc1 nm1 cm1 nc2 cc2 nm2 cm2 W hR0 hR1 hR2 (fun h => hg (.inl h)) (fun h => hg (.inr (.inl h))) (fun h => hg (.inr (.inr h)))
  refine hwalk.mono fun e W' ⟨he, bel⟩ => ?_
  subst he
  exact ⟨_, rfl, _, _, _, [], _, [], hW', trodAll_cons_mk (shut_bool Try.underlying4 _) trodAll_mk0,
    (trodAll_cons_mk (Below.trod laidOut (by kernel_rfl) (of_decide_eq_true (by kernel_rfl)) h0 bel lt0) (trodAll_cons_mk (Below.trod laidOut (by kernel_rfl) (of_decide_eq_true (by kernel_rfl)) h1 bel lt1) (trodAll_cons_mk (Below.trod laidOut (by kernel_rfl) (of_decide_eq_true (by kernel_rfl)) h2 bel lt2) trodAll_mk0))), rfl, bel.frame _, fun h => by cases h⟩

theorem histTurns_holds : Rows.HistTurnsSaid :=
  OpenClaim.holds_of_wide 8 Try.f8 rfl rfl rfl rfl rfl rfl rfl ⟨rfl, rfl, rfl, rfl, rfl⟩ rfl rfl rfl rfl rfl (by kernel_rfl) Try.func8 (by kernel_rfl)
    (of_decide_eq_true (by kernel_rfl)) (by unfold Func.isWrapper; rw [if_neg (of_decide_eq_false (by kernel_rfl))]; exact ⟨rfl, rfl⟩)
    (fun os started H enc _ => histTurns_lifted os started H enc)
#print axioms histTurns_holds
end Go.Proofs.Ytdpcplhmnpglgaa
