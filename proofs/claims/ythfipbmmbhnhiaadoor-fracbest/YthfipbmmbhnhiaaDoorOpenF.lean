/-
  Fractions that come in by value: what a fraction's, a signed one's and a pair's cells hold. No condition.
-/
import Derived.Test.YthfipbmmbhnhiaaDoorFracS
import Derived.Test.YthfipbmmbhnhiaaDoorLaidF
import Derived.Lib.SmallJoins
namespace Go.Proofs.YthfipbmmbhnhiaaDoor
open Go.ChangeShapes Go.WideShapes Go.ChangeAt Go.RowKit

theorem cellsU64 : Tryd.prog.cellsOf 22 = 1 := by kernel_rfl
theorem cellsI64 : Tryd.prog.cellsOf 2 = 1 := by kernel_rfl
theorem cellsWide : Tryd.prog.cellsOf 24 = 2 := by kernel_rfl
theorem cellsFrac : Tryd.prog.cellsOf 26 = 3 := by kernel_rfl
theorem cellsSigned : Tryd.prog.cellsOf 28 = 2 := by kernel_rfl
theorem cellsPair : Tryd.prog.cellsOf 29 = 4 := by kernel_rfl

theorem trod_wide {H : Type} {enc : TypeId × Value → H} {W : World} {sp : Nat → Bool} {held : Bool} {m : Nat} {c0 c1 : Value} {x : DataW H × List MemPlace}
    (h : DataW.trod enc Tryd.prog W 0 sp held m 24 [c0, c1] = some x) : ∃ a b, c0 = .int .u64 a ∧ c1 = .int .u64 b ∧ Word a ∧ Word b := by
  obtain ⟨xs, n, _, rfl, hl, hlen, hf⟩ := DataW.trod_struct Tryd.underlying24 h
  match xs, hlen with
  | [y0, y1], _ =>
    have e0 := hf 0 _ rfl
    have e1 := hf 1 _ rfl
    simp [cellsU64] at e0 e1
    obtain ⟨a, k0, rfl, w0⟩ := DataW.trod_int Tryd.underlying22 e0
    obtain ⟨b, k1, rfl, w1⟩ := DataW.trod_int Tryd.underlying22 e1
    simp at k0 k1
    exact ⟨a, b, k0, k1, in_u64 w0, in_u64 w1⟩

theorem trod_frac {H : Type} {enc : TypeId × Value → H} {W : World} {sp : Nat → Bool} {held : Bool} {m : Nat} {c0 c1 c2 : Value} {x : DataW H × List MemPlace}
    (h : DataW.trod enc Tryd.prog W 0 sp held m 26 [c0, c1, c2] = some x) : ∃ a b d, c0 = .int .u64 a ∧ c1 = .int .u64 b ∧ c2 = .int .u64 d ∧ Word a ∧ Word b ∧ Word d := by
  obtain ⟨xs, n, _, rfl, hl, hlen, hf⟩ := DataW.trod_struct Tryd.underlying26 h
  match xs, hlen with
  | [y0, y1], _ =>
    have e0 := hf 0 _ rfl
    have e1 := hf 1 _ rfl
    simp [cellsU64, cellsWide] at e0 e1
    obtain ⟨a, b, k0, k1, w0, w1⟩ := trod_wide e0
    obtain ⟨d, k2, rfl, w2⟩ := DataW.trod_int Tryd.underlying22 e1
    simp at k2
    exact ⟨a, b, d, k0, k1, k2, w0, w1, in_u64 w2⟩

theorem trod_signed {H : Type} {enc : TypeId × Value → H} {W : World} {sp : Nat → Bool} {held : Bool} {m : Nat} {c0 c1 : Value} {x : DataW H × List MemPlace}
    (h : DataW.trod enc Tryd.prog W 0 sp held m 28 [c0, c1] = some x) : ∃ a b, c0 = .int .i64 a ∧ c1 = .int .i64 b ∧ Whole a ∧ Whole b := by
  obtain ⟨xs, n, _, rfl, hl, hlen, hf⟩ := DataW.trod_struct Tryd.underlying28 h
  match xs, hlen with
  | [y0, y1], _ =>
    have e0 := hf 0 _ rfl
    have e1 := hf 1 _ rfl
    simp [cellsI64] at e0 e1
    obtain ⟨a, k0, rfl, w0⟩ := DataW.trod_int Tryd.underlying2 e0
    obtain ⟨b, k1, rfl, w1⟩ := DataW.trod_int Tryd.underlying2 e1
    simp at k0 k1
    exact ⟨a, b, k0, k1, in_i64 w0, in_i64 w1⟩

theorem open_frac {H : Type} {enc : TypeId × Value → H} {W : World} {base : Nat} {sp : Nat → Bool} {held : Bool} {v : Value} {d : DataW H} {p : List MemPlace}
    (hv : Value.okWide Tryd.prog W .any base 26 v) (h : DataW.Trod enc Tryd.prog W 0 sp held 26 v d p) : ∃ x y z : Int, v = fr x y z ∧ Word x ∧ Word y ∧ Word z := by
  obtain ⟨cs, rfl, hsz, _⟩ : ∃ cs, v = .agg cs ∧ cs.size = Tryd.prog.cellsOf 26 ∧ Row.okWide Tryd.prog W .any base 26 cs := by
    simpa [Value.okWide, Tryd.underlying26] using hv
  rw [cellsFrac] at hsz
  obtain ⟨l⟩ := cs
  match l, hsz with
  | [c0, c1, c2], _ =>
    obtain ⟨fuel, hf⟩ := h
    obtain ⟨a, b, e, rfl, rfl, rfl, k⟩ := trod_frac (show DataW.trod enc Tryd.prog W 0 sp held fuel 26 [c0, c1, c2] = _ from hf)
    exact ⟨a, b, e, rfl, k⟩

theorem open_pair {H : Type} {enc : TypeId × Value → H} {W : World} {base : Nat} {sp : Nat → Bool} {held : Bool} {v : Value} {d : DataW H} {p : List MemPlace}
    (hv : Value.okWide Tryd.prog W .any base 29 v) (h : DataW.Trod enc Tryd.prog W 0 sp held 29 v d p) : ∃ x y z t : Int, v = .agg #[.int .i64 x, .int .i64 y, .int .i64 z, .int .i64 t] ∧ Whole x ∧ Whole y ∧ Whole z ∧ Whole t := by
  obtain ⟨cs, rfl, hsz, _⟩ : ∃ cs, v = .agg cs ∧ cs.size = Tryd.prog.cellsOf 29 ∧ Row.okWide Tryd.prog W .any base 29 cs := by
    simpa [Value.okWide, Tryd.underlying29] using hv
  rw [cellsPair] at hsz
  obtain ⟨l⟩ := cs
  match l, hsz with
  | [c0, c1, c2, c3], _ =>
    obtain ⟨fuel, hf⟩ := h
    obtain ⟨xs, m, rfl, hx, hlen, hn, hel⟩ := DataW.trod_array Tryd.underlying29 (show DataW.trod enc Tryd.prog W 0 sp held fuel 29 [c0, c1, c2, c3] = _ from hf)
    have k0 := hel 0 (by decide)
    have k1 := hel 1 (by decide)
    rw [cellsSigned] at k0 k1
    match xs, hn with
    | [x0, x1], _ =>
      obtain ⟨a, b, rfl, rfl, w0, w1⟩ := trod_signed (show DataW.trod _ Tryd.prog W 0 _ _ m 28 [c0, c1] = some x0 from k0)
      obtain ⟨c, e, rfl, rfl, w2, w3⟩ := trod_signed (show DataW.trod _ Tryd.prog W 0 _ _ m 28 [c2, c3] = some x1 from k1)
      exact ⟨a, b, c, e, rfl, w0, w1, w2, w3⟩
end Go.Proofs.YthfipbmmbhnhiaaDoor
