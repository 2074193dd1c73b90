/-
  DealApart holds: for every two arrays of six numbers the law returns true and leaves its arguments as they read: unlike draws make unlike permutations. No condition.
-/
import Derived.Test.YtmhggfgbefjcmaaApartW
import Derived.ProofKit
import Derived.OpenShut
import Derived.ShutString
import Derived.LaidMore
import Derived.Carry
namespace Go.Proofs.Ytmhggfgbefjcmaa
open Go.ChangeShapes Go.WideShapes Go.ChangeAt Go.RowKit

theorem own : ownKnob Try.prog.godebug = none := by kernel_rfl
theorem laidOut : laidOutB Try.prog = true := by kernel_rfl
theorem cellsSix : Try.prog.cellsOf 45 = 6 := by kernel_rfl
theorem cellsU8 : Try.prog.cellsOf 5 = 1 := by kernel_rfl

theorem six_of {α : Type} (l : List α) (h : (⟨l⟩ : Array α).size = 6) : ∃ a b c d e f, l = [a, b, c, d, e, f] := by
  match l, h with
  | [a, b, c, d, e, f], _ => exact ⟨a, b, c, d, e, f, rfl⟩

theorem in_u8 {x : Int} (h : (Lit.int .u8 x).wf = true) : 0 ≤ x ∧ x < 256 := by
  have := bounds_u8 h
  omega

theorem open_six {H : Type} {enc : TypeId × Value → H} {W : World} {base : Nat} {sp : Nat → Bool} {held : Bool} {v : Value} {d : DataW H} {p : List MemPlace}
    (hv : Value.okWide Try.prog W .any base 45 v) (h : DataW.Trod enc Try.prog W 0 sp held 45 v d p) :
    ∃ a0 a1 a2 a3 a4 a5 : Int, v = .agg #[.int .u8 a0, .int .u8 a1, .int .u8 a2, .int .u8 a3, .int .u8 a4, .int .u8 a5] ∧ ∀ j, j < 6 → 0 ≤ [a0, a1, a2, a3, a4, a5].getD j 0 ∧ [a0, a1, a2, a3, a4, a5].getD j 0 < 256 := by
  obtain ⟨cs, rfl, hsz, _⟩ : ∃ cs, v = .agg cs ∧ cs.size = Try.prog.cellsOf 45 ∧ Row.okWide Try.prog W .any base 45 cs := by
    simpa [Value.okWide, Try.underlying45] using hv
  rw [cellsSix] at hsz
  obtain ⟨l⟩ := cs
  obtain ⟨c0, c1, c2, c3, c4, c5, rfl⟩ := six_of l hsz
  obtain ⟨fuel, hf⟩ := h
  obtain ⟨xs, m, rfl, _, _, hn, hel⟩ := DataW.trod_array Try.underlying45 hf
  have k0 := hel 0 (by decide)
  have k1 := hel 1 (by decide)
  have k2 := hel 2 (by decide)
  have k3 := hel 3 (by decide)
  have k4 := hel 4 (by decide)
  have k5 := hel 5 (by decide)
  rw [cellsU8] at k0 k1 k2 k3 k4 k5
  match xs, hn with
  | [x0, x1, x2, x3, x4, x5], _ =>
    obtain ⟨y0, e0, _, w0⟩ := DataW.trod_int Try.underlying5 (show DataW.trod _ Try.prog W 0 _ _ m 5 [c0] = some x0 from k0)
    obtain ⟨y1, e1, _, w1⟩ := DataW.trod_int Try.underlying5 (show DataW.trod _ Try.prog W 0 _ _ m 5 [c1] = some x1 from k1)
    obtain ⟨y2, e2, _, w2⟩ := DataW.trod_int Try.underlying5 (show DataW.trod _ Try.prog W 0 _ _ m 5 [c2] = some x2 from k2)
    obtain ⟨y3, e3, _, w3⟩ := DataW.trod_int Try.underlying5 (show DataW.trod _ Try.prog W 0 _ _ m 5 [c3] = some x3 from k3)
    obtain ⟨y4, e4, _, w4⟩ := DataW.trod_int Try.underlying5 (show DataW.trod _ Try.prog W 0 _ _ m 5 [c4] = some x4 from k4)
    obtain ⟨y5, e5, _, w5⟩ := DataW.trod_int Try.underlying5 (show DataW.trod _ Try.prog W 0 _ _ m 5 [c5] = some x5 from k5)
    simp at e0 e1 e2 e3 e4 e5
    subst e0 e1 e2 e3 e4 e5
    refine ⟨y0, y1, y2, y3, y4, y5, rfl, fun j hj => ?_⟩
    rcases six j hj with rfl | rfl | rfl | rfl | rfl | rfl
    · exact in_u8 w0
    · exact in_u8 w1
    · exact in_u8 w2
    · exact in_u8 w3
    · exact in_u8 w4
    · exact in_u8 w5

set_option maxRecDepth 100000 in
theorem dealApart_lifted (os : Os) (started : os.Started) (H : Type) (enc : TypeId × Value → H) :
    ReturnsInHanded {} Try.checked os 8 .any (Rows.dealApartSpec.pre6 enc Try.prog Try.f8 Rows.dealApartRow.domain false)
      (Rows.dealApartSpec.post enc Try.prog Try.f8 false true false false) := by
  refine returnsInHanded_of_change (C := Try.checked) own started (by kernel_rfl) Try.func8
    (ChangeSpec.witness6 (enc := enc) (C := Try.checked) false ⟨#[], #[.agg #[.int .u8 0, .int .u8 0, .int .u8 0, .int .u8 0, .int .u8 0, .int .u8 0], .agg #[.int .u8 0, .int .u8 0, .int .u8 0, .int .u8 0, .int .u8 0, .int .u8 0]], []⟩ 8 (by kernel_rfl) (by kernel_rfl) (by kernel_rfl) (by kernel_rfl)) ?_
  intro W base args ds gs before hval0 hW _ _
  have hval : ∀ (j : Nat) t v, Try.f8.params[j]? = some t → args[j]? = some v → Value.okWide Try.prog W .any base t v := hval0
  have hW' := hW
  obtain ⟨p, q, hA0, hV, rfl, hfz, hnd⟩ := hW
  have hA : DataW.TrodAll enc Try.prog W 0 (fun _ => true) true Try.f8.params.toList args.toList ds p := hA0
  rw [Try.params8] at hA hval
  obtain ⟨v0, vs0, d0, ds0, p0, q0, hargs, rfl, rfl, h0, r0⟩ := trodAll_cons hA
  obtain ⟨v1, vs1, d1, ds1, p1, q1, rfl, rfl, rfl, h1, r1⟩ := trodAll_cons r0
  obtain ⟨rfl, rfl, rfl⟩ := trodAll_nil r1
  obtain rfl : args = #[v0, v1] := by cases args; simp_all
  obtain ⟨rfl, rfl⟩ := trodVars_none hV
  have lt0 : ∀ x ∈ p0, x.block < W.heap.size := by obtain ⟨m, hm⟩ := h0; exact DataW.trod_lt m _ _ _ hm
  have lt1 : ∀ x ∈ p1, x.block < W.heap.size := by obtain ⟨m, hm⟩ := h1; exact DataW.trod_lt m _ _ _ hm
  obtain ⟨a0, a1, a2, a3, a4, a5, rfl, ha⟩ := open_six (hval 0 45 v0 rfl rfl) h0
  obtain ⟨b0, b1, b2, b3, b4, b5, rfl, hb⟩ := open_six (hval 1 45 v1 rfl rfl) h1
  clear hA0 hval0
  refine (apart_any a0 a1 a2 a3 a4 a5 b0 b1 b2 b3 b4 b5 ha hb W).mono fun e W' ⟨he, bel⟩ => ?_
  subst he
  exact ⟨_, rfl, _, _, _, [], _, [], hW', trodAll_cons_mk (shut_bool Try.underlying4 _) trodAll_mk0,
    trodAll_cons_mk (Below.trod laidOut (by kernel_rfl) (of_decide_eq_true (by kernel_rfl)) h0 bel lt0) (trodAll_cons_mk (Below.trod laidOut (by kernel_rfl) (of_decide_eq_true (by kernel_rfl)) h1 bel lt1) trodAll_mk0), rfl, bel.frame _, fun h => by cases h⟩

theorem dealApart_holds : Rows.DealApartSaid :=
  OpenClaim.holds_of_wide 8 Try.f8 rfl rfl rfl rfl rfl rfl rfl ⟨rfl, rfl, rfl, rfl, rfl⟩ rfl rfl rfl rfl rfl (by kernel_rfl) Try.func8 (by kernel_rfl)
    (of_decide_eq_true (by kernel_rfl)) (by unfold Func.isWrapper; rw [if_neg (of_decide_eq_false (by kernel_rfl))]; exact ⟨rfl, rfl⟩)
    (fun os started H enc _ => dealApart_lifted os started H enc)
#print axioms dealApart_holds
end Go.Proofs.Ytmhggfgbefjcmaa
