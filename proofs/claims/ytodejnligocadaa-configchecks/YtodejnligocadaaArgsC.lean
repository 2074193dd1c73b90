/-
  A CONFIG THAT COMES IN BY VALUE: its seven whole numbers. No condition.
-/
import Derived.Test.YtodejnligocadaaArgsB
import Derived.Test.YtodejnligocadaaCfg
import Derived.Lib.SmallJoins
namespace Go.Proofs.Ytodejnligocadaa
open Go.ChangeShapes Go.WideShapes Go.ChangeAt Go.RowKit

theorem in_i64 {x : Int} (h : (Lit.int .i64 x).wf = true) : -9223372036854775808 ≤ x ∧ x ≤ 9223372036854775807 := by
  simp [Lit.wf, IntKind.min, IntKind.max, IntKind.signed, IntKind.bits] at h
  omega
theorem cellsInt : Try.prog.cellsOf 3 = 1 := by kernel_rfl
theorem cellsConfig : Try.prog.cellsOf 23 = 7 := by kernel_rfl

theorem open_cfg {H : Type} {enc : TypeId × Value → H} {W : World} {base : Nat} {sp : Nat → Bool} {held : Bool} {v : Value} {d : DataW H} {p : List MemPlace}
    (hv : Value.okWide Try.prog W .any base 23 v) (h : DataW.Trod enc Try.prog W 0 sp held 23 v d p) :
    ∃ k c b t d l p : Int, v = cf k c b t d l p ∧ (-9223372036854775808 ≤ k ∧ k ≤ 9223372036854775807) ∧ (-9223372036854775808 ≤ c ∧ c ≤ 9223372036854775807) ∧ (-9223372036854775808 ≤ b ∧ b ≤ 9223372036854775807) ∧ (-9223372036854775808 ≤ t ∧ t ≤ 9223372036854775807) ∧ (-9223372036854775808 ≤ d ∧ d ≤ 9223372036854775807) ∧ (-9223372036854775808 ≤ l ∧ l ≤ 9223372036854775807) ∧ (-9223372036854775808 ≤ p ∧ p ≤ 9223372036854775807) := by
  obtain ⟨cs, rfl, hsz, _⟩ : ∃ cs, v = .agg cs ∧ cs.size = Try.prog.cellsOf 23 ∧ Row.okWide Try.prog W .any base 23 cs := by
    simpa [Value.okWide, Try.underlying23] using hv
  rw [cellsConfig] at hsz
  obtain ⟨l⟩ := cs
  match l, hsz with
  | [c0, c1, c2, c3, c4, c5, c6], _ =>
    obtain ⟨fuel, hf⟩ := h
    obtain ⟨xs, n, _, _, hl, hlen, hf⟩ := DataW.trod_struct Try.underlying23 (show DataW.trod enc Try.prog W 0 sp held fuel 23 [c0, c1, c2, c3, c4, c5, c6] = _ from hf)
    match xs, hlen with
    | [y0, y1, y2, y3, y4, y5, y6], _ =>
      have e0 := hf 0 _ rfl
      have e1 := hf 1 _ rfl
      have e2 := hf 2 _ rfl
      have e3 := hf 3 _ rfl
      have e4 := hf 4 _ rfl
      have e5 := hf 5 _ rfl
      have e6 := hf 6 _ rfl
      simp [cellsInt] at e0 e1 e2 e3 e4 e5 e6
      obtain ⟨a0, k0, _, w0⟩ := DataW.trod_int Try.underlying3 e0
      obtain ⟨a1, k1, _, w1⟩ := DataW.trod_int Try.underlying3 e1
      obtain ⟨a2, k2, _, w2⟩ := DataW.trod_int Try.underlying3 e2
      obtain ⟨a3, k3, _, w3⟩ := DataW.trod_int Try.underlying3 e3
      obtain ⟨a4, k4, _, w4⟩ := DataW.trod_int Try.underlying3 e4
      obtain ⟨a5, k5, _, w5⟩ := DataW.trod_int Try.underlying3 e5
      obtain ⟨a6, k6, _, w6⟩ := DataW.trod_int Try.underlying3 e6
      simp at k0 k1 k2 k3 k4 k5 k6
      subst k0 k1 k2 k3 k4 k5 k6
      exact ⟨a0, a1, a2, a3, a4, a5, a6, rfl, in_i64 w0, in_i64 w1, in_i64 w2, in_i64 w3, in_i64 w4, in_i64 w5, in_i64 w6⟩
end Go.Proofs.Ytodejnligocadaa
