/-
  WHAT CAME IN: a matrix by value, its rows, columns and cells; a slice of whole numbers. No condition.
-/
import Derived.Test.YtjaogmbeoldefaaArgsN
import Derived.Test.YtjaogmbeoldefaaBinC
import Derived.Lib.SmallJoins
namespace Go.Proofs.Ytjaogmbeoldefaa
open Go.ChangeShapes Go.WideShapes Go.ChangeAt Go.RowKit

theorem in_i64 {x : Int} (h : (Lit.int .i64 x).wf = true) : -9223372036854775808 ≤ x ∧ x ≤ 9223372036854775807 := by
  simp [Lit.wf, IntKind.min, IntKind.max, IntKind.signed, IntKind.bits] at h
  omega
theorem in_u16 {x : Int} (h : (Lit.int .u16 x).wf = true) : 0 ≤ x ∧ x < 65536 := by
  simp [Lit.wf, IntKind.min, IntKind.max, IntKind.signed, IntKind.bits] at h
  omega
theorem cellsIntX : Try.prog.cellsOf 3 = 1 := by kernel_rfl
theorem cellsU16s : Try.prog.cellsOf 40 = 1 := by kernel_rfl
theorem cellsMatrix : Try.prog.cellsOf 42 = 3 := by kernel_rfl
theorem trod_u16s {H : Type} {enc : TypeId × Value → H} {W : World} {sp : Nat → Bool} {held : Bool} {m : Nat} {v : Value} {x : DataW H × List MemPlace}
    (h : DataW.trod enc Try.prog W 0 sp held m 40 [v] = some x) : ∃ (a : Option Addr) (n cap : Nat) (l : List Int), v = .slice a n cap ∧ l.length = n ∧ n ≤ cap ∧ (a = none → cap = 0) ∧ HoldsE KW W a l ∧ In16 l := by
  rcases open_ints Try.underlying40 Try.underlying59 (by kernel_rfl) h with ⟨hcs, _⟩ | ⟨x, l, c, zs, hcs, _, hl, hm, hz, _, hcell, hwz⟩
  · simp at hcs
    exact ⟨none, 0, 0, [], hcs, rfl, Nat.le_refl _, fun _ => rfl, .inl rfl, fun _ h => by cases h⟩
  · simp at hcs
    have hz' : l ≤ zs.length := by split at hz <;> omega
    refine ⟨some x, l, c, zs.take l, hcs, by simp; omega, hl, fun h => (by cases h), ?_, fun z hz => in_u16 (hwz z (List.mem_of_mem_take hz))⟩
    by_cases h0 : l = 0
    · subst h0; exact .inl (by simp)
    · obtain ⟨b, off, rfl, hc⟩ := ints_at hcell (by omega)
      refine .inr ⟨b, off, rfl, block_lt (hc 0 (by omega)), fun j hj => ?_⟩
      simp at hj
      rw [hc j (by omega)]
      simp [List.getD_eq_getElem?_getD, show j < l by omega, KW]
theorem open_p64 {H : Type} {enc : TypeId × Value → H} {W : World} {sp : Nat → Bool} {held : Bool} {a : Option Addr} {len cap : Nat} {d : DataW H} {p : List MemPlace}
    (h : DataW.Trod enc Try.prog W 0 sp held 54 (.slice a len cap) d p) : ∃ l : List Int, l.length = len ∧ HoldsE KN W a l ∧ In64s l := by
  obtain ⟨fuel, hf⟩ := h
  rcases open_ints Try.underlying54 Try.underlying3 (by kernel_rfl) hf with ⟨hcs, _⟩ | ⟨x, l, c, zs, hcs, _, hl, hm, hz, _, hcell, hwz⟩
  · simp [Value.cells] at hcs
    obtain ⟨rfl, rfl, rfl⟩ := hcs
    exact ⟨[], rfl, .inl rfl, fun _ h => by cases h⟩
  · simp [Value.cells] at hcs
    obtain ⟨rfl, rfl, rfl⟩ := hcs
    have hz' : len ≤ zs.length := by split at hz <;> omega
    refine ⟨zs.take len, by simp; omega, ?_, fun z hz => in_i64 (hwz z (List.mem_of_mem_take hz))⟩
    by_cases h0 : len = 0
    · subst h0; exact .inl (by simp)
    · obtain ⟨b, off, rfl, hc⟩ := ints_at hcell (by omega)
      refine .inr ⟨b, off, rfl, block_lt (hc 0 (by omega)), fun j hj => ?_⟩
      simp at hj
      rw [hc j (by omega)]
      simp [List.getD_eq_getElem?_getD, show j < len by omega, KN]

set_option maxRecDepth 20000 in
theorem open_mat {H : Type} {enc : TypeId × Value → H} {W : World} {base : Nat} {sp : Nat → Bool} {held : Bool} {v : Value} {dd : DataW H} {pp : List MemPlace}
    (hv : Value.okWide Try.prog W .any base 42 v) (h : DataW.Trod enc Try.prog W 0 sp held 42 v dd pp) :
    ∃ (r q : Int) (a : Option Addr) (n c : Nat) (C : List Int), v = mx r q (.slice a n c) ∧ C.length = n ∧ n ≤ c ∧ (a = none → c = 0) ∧ HoldsE KW W a C ∧ In16 C := by
  obtain ⟨cs, rfl, hsz, _⟩ : ∃ cs, v = .agg cs ∧ cs.size = Try.prog.cellsOf 42 ∧ Row.okWide Try.prog W .any base 42 cs := by
    simpa [Value.okWide, Try.underlying42] using hv
  rw [cellsMatrix] at hsz
  obtain ⟨l⟩ := cs
  match l, hsz with
  | [c0, c1, c2], _ =>
    obtain ⟨fuel, hf⟩ := h
    obtain ⟨xs, n, _, _, hl, hlen, hf⟩ := DataW.trod_struct Try.underlying42 (show DataW.trod enc Try.prog W 0 sp held fuel 42 [c0, c1, c2] = _ from hf)
    match xs, hlen with
    | [y0, y1, y2], _ =>
      have e0 := hf 0 _ rfl
      have e1 := hf 1 _ rfl
      have e2 := hf 2 _ rfl
      simp [cellsIntX, cellsU16s] at e0 e1 e2
      obtain ⟨r, k1, _, w1⟩ := DataW.trod_int Try.underlying3 e0
      obtain ⟨q, k2, _, w2⟩ := DataW.trod_int Try.underlying3 e1
      simp at k1 k2
      subst k1 k2
      obtain ⟨a, n', cap, C, rfl, h1, h2, h3, h4, h5⟩ := trod_u16s e2
      exact ⟨r, q, a, n', cap, C, rfl, h1, h2, h3, h4, h5⟩
end Go.Proofs.Ytjaogmbeoldefaa
