/-
  WHAT CAME IN: a dataset by value, its values told by their bits; a slice of slices of numbers. No condition.
-/
import Derived.Test.YtjaogmbeoldefaaArgsN
import Derived.Test.YtjaogmbeoldefaaFull11
import Derived.Test.YtjaogmbeoldefaaBinP
import Derived.Lib.SmallJoins
import Derived.Deep.Slices
import Derived.ChangeSame
namespace Go.Proofs.Ytjaogmbeoldefaa
open Go.ChangeShapes Go.WideShapes Go.ChangeAt Go.RowKit

theorem in_i64 {x : Int} (h : (Lit.int .i64 x).wf = true) : -9223372036854775808 ≤ x ∧ x ≤ 9223372036854775807 := by
  simp [Lit.wf, IntKind.min, IntKind.max, IntKind.signed, IntKind.bits] at h
  omega
theorem cellsInt : Try.prog.cellsOf 3 = 1 := by kernel_rfl
theorem cellsConfig : Try.prog.cellsOf 23 = 7 := by kernel_rfl
theorem cellsU64s : Try.prog.cellsOf 24 = 1 := by kernel_rfl
theorem cellsI64s : Try.prog.cellsOf 25 = 1 := by kernel_rfl
theorem cellsPlain : Try.prog.cellsOf 27 = 11 := by kernel_rfl

theorem trod_u64s {H : Type} {enc : TypeId × Value → H} {W : World} {sp : Nat → Bool} {held : Bool} {m : Nat} {v : Value} {x : DataW H × List MemPlace}
    (h : DataW.trod enc Try.prog W 0 sp held m 24 [v] = some x) : ∃ (a : Option Addr) (n cap : Nat) (l : List Int), v = .slice a n cap ∧ l.length = n ∧ (a = none → cap = 0) ∧ HoldsE KU W a l ∧ ∀ z ∈ l, 0 ≤ z ∧ z < 18446744073709551616 := by
  rcases open_ints Try.underlying24 Try.underlying69 (by kernel_rfl) h with ⟨hcs, _⟩ | ⟨x, l, c, zs, hcs, _, hl, hm, hz, _, hcell, hwz⟩
  · simp at hcs
    exact ⟨none, 0, 0, [], hcs, rfl, fun _ => rfl, .inl rfl, fun _ h => by cases h⟩
  · simp at hcs
    have hz' : l ≤ zs.length := by split at hz <;> omega
    refine ⟨some x, l, c, zs.take l, hcs, by simp; omega, fun h => (by cases h), ?_, fun z hz => in_u64 (hwz z (List.mem_of_mem_take hz))⟩
    by_cases h0 : l = 0
    · subst h0; exact .inl (by simp)
    · obtain ⟨b, off, rfl, hc⟩ := ints_at hcell (by omega)
      refine .inr ⟨b, off, rfl, block_lt (hc 0 (by omega)), fun j hj => ?_⟩
      simp at hj
      rw [hc j (by omega)]
      simp [List.getD_eq_getElem?_getD, show j < l by omega, KU]
theorem trod_i64s {H : Type} {enc : TypeId × Value → H} {W : World} {sp : Nat → Bool} {held : Bool} {m : Nat} {v : Value} {x : DataW H × List MemPlace}
    (h : DataW.trod enc Try.prog W 0 sp held m 25 [v] = some x) : ∃ (a : Option Addr) (n cap : Nat) (l : List Int), v = .slice a n cap ∧ l.length = n ∧ (a = none → cap = 0) ∧ HoldsE K64 W a l ∧ In64s l := by
  rcases open_ints Try.underlying25 Try.underlying2 (by kernel_rfl) h with ⟨hcs, _⟩ | ⟨x, l, c, zs, hcs, _, hl, hm, hz, _, hcell, hwz⟩
  · simp at hcs
    exact ⟨none, 0, 0, [], hcs, rfl, fun _ => rfl, .inl rfl, fun _ h => by cases h⟩
  · simp at hcs
    have hz' : l ≤ zs.length := by split at hz <;> omega
    refine ⟨some x, l, c, zs.take l, hcs, by simp; omega, fun h => (by cases h), ?_, fun z hz => in_i64 (hwz z (List.mem_of_mem_take hz))⟩
    by_cases h0 : l = 0
    · subst h0; exact .inl (by simp)
    · obtain ⟨b, off, rfl, hc⟩ := ints_at hcell (by omega)
      refine .inr ⟨b, off, rfl, block_lt (hc 0 (by omega)), fun j hj => ?_⟩
      simp at hj
      rw [hc j (by omega)]
      simp [List.getD_eq_getElem?_getD, show j < l by omega, K64]
theorem trod_cfg {H : Type} {enc : TypeId × Value → H} {W : World} {sp : Nat → Bool} {held : Bool} {m : Nat} {c0 c1 c2 c3 c4 c5 c6 : Value} {x : DataW H × List MemPlace}
    (h : DataW.trod enc Try.prog W 0 sp held m 23 [c0, c1, c2, c3, c4, c5, c6] = some x) : ∃ k c b t d l p : Int, c0 = .int .i64 k ∧ c1 = .int .i64 c ∧ c2 = .int .i64 b ∧ c3 = .int .i64 t ∧ c4 = .int .i64 d ∧ c5 = .int .i64 l ∧ c6 = .int .i64 p := by
  obtain ⟨xs, n, _, _, hl, hlen, hf⟩ := DataW.trod_struct Try.underlying23 h
  match xs, hlen with
  | [y0, y1, y2, y3, y4, y5, y6], _ =>
    have e0 := hf 0 _ rfl
    have e1 := hf 1 _ rfl
    have e2 := hf 2 _ rfl
    have e3 := hf 3 _ rfl
    have e4 := hf 4 _ rfl
    have e5 := hf 5 _ rfl
    have e6 := hf 6 _ rfl
    simp [cellsInt] at e0 e1 e2 e3 e4 e5 e6
    obtain ⟨a0, k0, _, w0⟩ := DataW.trod_int Try.underlying3 e0
    obtain ⟨a1, k1, _, w1⟩ := DataW.trod_int Try.underlying3 e1
    obtain ⟨a2, k2, _, w2⟩ := DataW.trod_int Try.underlying3 e2
    obtain ⟨a3, k3, _, w3⟩ := DataW.trod_int Try.underlying3 e3
    obtain ⟨a4, k4, _, w4⟩ := DataW.trod_int Try.underlying3 e4
    obtain ⟨a5, k5, _, w5⟩ := DataW.trod_int Try.underlying3 e5
    obtain ⟨a6, k6, _, w6⟩ := DataW.trod_int Try.underlying3 e6
    simp at k0 k1 k2 k3 k4 k5 k6
    exact ⟨a0, a1, a2, a3, a4, a5, a6, k0, k1, k2, k3, k4, k5, k6⟩

set_option maxRecDepth 20000 in
theorem open_plain {H : Type} {enc : TypeId × Value → H} {W : World} {base : Nat} {sp : Nat → Bool} {held : Bool} {v : Value} {dd : DataW H} {pp : List MemPlace}
    (hv : Value.okWide Try.prog W .any base 27 v) (h : DataW.Trod enc Try.prog W 0 sp held 27 v dd pp) :
    ∃ (k c b t d l p r q : Int) (aV aT : Option Addr) (nV cV nT cT : Nat) (V T : List Int), v = ds k c b t d l p r q (.slice aV nV cV) (.slice aT nT cT) ∧ V.length = nV ∧ T.length = nT ∧ (aV = none → cV = 0) ∧ (aT = none → cT = 0) ∧
      (-9223372036854775808 ≤ r ∧ r ≤ 9223372036854775807) ∧ (-9223372036854775808 ≤ q ∧ q ≤ 9223372036854775807) ∧ HoldsE KU W aV V ∧ HoldsE K64 W aT T ∧ (∀ z ∈ V, 0 ≤ z ∧ z < 18446744073709551616) ∧ In64s T := by
  obtain ⟨cs, rfl, hsz, _⟩ : ∃ cs, v = .agg cs ∧ cs.size = Try.prog.cellsOf 27 ∧ Row.okWide Try.prog W .any base 27 cs := by
    simpa [Value.okWide, Try.underlying27] using hv
  rw [cellsPlain] at hsz
  obtain ⟨l⟩ := cs
  match l, hsz with
  | [c0, c1, c2, c3, c4, c5, c6, c7, c8, c9, c10], _ =>
    obtain ⟨fuel, hf⟩ := h
    obtain ⟨xs, n, _, _, hl, hlen, hf⟩ := DataW.trod_struct Try.underlying27 (show DataW.trod enc Try.prog W 0 sp held fuel 27 [c0, c1, c2, c3, c4, c5, c6, c7, c8, c9, c10] = _ from hf)
    match xs, hlen with
    | [y0, y1, y2, y3, y4], _ =>
      have e0 := hf 0 _ rfl
      have e1 := hf 1 _ rfl
      have e2 := hf 2 _ rfl
      have e3 := hf 3 _ rfl
      have e4 := hf 4 _ rfl
      simp [cellsInt, cellsConfig, cellsU64s, cellsI64s] at e0 e1 e2 e3 e4
      obtain ⟨k, c, b, t, d, lf, p, rfl, rfl, rfl, rfl, rfl, rfl, rfl⟩ := trod_cfg e0
      obtain ⟨r, k1, _, w1⟩ := DataW.trod_int Try.underlying3 e1
      obtain ⟨q, k2, _, w2⟩ := DataW.trod_int Try.underlying3 e2
      simp at k1 k2
      subst k1 k2
      obtain ⟨aV, nV, cV, V, rfl, hV1, hV2, hV3, hV4⟩ := trod_u64s e3
      obtain ⟨aT, nT, cT, T, rfl, hT1, hT2, hT3, hT4⟩ := trod_i64s e4
      exact ⟨k, c, b, t, d, lf, p, r, q, aV, aT, nV, cV, nT, cT, V, T, rfl, hV1, hT1, hV2, hT2, in_i64 w1, in_i64 w2, hV3, hT3, hV4, hT4⟩
/-- A slice of slices leads to these numbers. -/
def HoldsN (W : World) (a : Option Addr) (n : Nat) (l : Nat → List Int) : Prop := n = 0 ∨ ∃ g off, a = some ⟨g, off, none⟩ ∧ g < W.heap.size ∧ ∀ j, j < n → ∃ a' c', W.cell? ⟨g, off + j, none⟩ = some (.slice a' (l j).length c') ∧ HoldsE KU W a' (l j)
theorem plain_of {w : World} {a : Addr} {v : Value} (h : w.cell? a = some v) : ∃ b off, a = ⟨b, off, none⟩ ∧ b < w.heap.size := by
  obtain ⟨b, off, f⟩ := a
  cases f with
  | none =>
    refine ⟨b, off, rfl, ?_⟩
    rcases Nat.lt_or_ge b w.heap.size with h' | h'
    · exact h'
    · simp [World.cell?, Array.getElem?_eq_none h'] at h
  | some f => simp [World.cell?] at h; split at h <;> cases h
theorem open_nest {H : Type} {enc : TypeId × Value → H} {W : World} {sp : Nat → Bool} {held : Bool} {a : Option Addr} {len cap : Nat} {d : DataW H} {p : List MemPlace}
    (h : DataW.Trod enc Try.prog W 0 sp held 28 (.slice a len cap) d p) : ∃ l : Nat → List Int, HoldsN W a len l ∧ ∀ j, j < len → ∀ z ∈ l j, 0 ≤ z ∧ z < 18446744073709551616 := by
  obtain ⟨fuel, hf⟩ := h
  rcases Go.Deep.open_slice Try.underlying28 hf with ⟨hcs, _⟩ | ⟨x, l, c, m, n, Dd, Pl, hcs, _, hl, hm, hmm, _, hx⟩
  · simp [Value.cells] at hcs
    obtain ⟨rfl, rfl, rfl⟩ := hcs
    exact ⟨fun _ => [], .inl rfl, fun j hj => by omega⟩
  · simp [Value.cells] at hcs
    obtain ⟨rfl, rfl, rfl⟩ := hcs
    have hlm : len ≤ m := by rw [hmm]; split <;> omega
    have each : ∀ i, i < len → ∃ q : List Int, (∃ a' c', W.cell? (x.add i) = some (.slice a' q.length c') ∧ HoldsE KU W a' q) ∧ ∀ z ∈ q, 0 ≤ z ∧ z < 18446744073709551616 := by
      intro i hi
      obtain ⟨cs', h1, h2⟩ := hx i (by omega)
      rw [cellsU64s] at h1
      obtain ⟨_, hlen, hcell⟩ := World.cells?_some h1
      match cs', hlen with
      | [v0], _ =>
        obtain ⟨a', n', cap', q, rfl, k1, k2, k3, k4⟩ := trod_u64s h2
        have e0 := hcell 0 (by omega)
        rw [Go.Deep.add_add] at e0
        exact ⟨q, ⟨a', cap', by rw [k1]; simpa using e0, k3⟩, k4⟩
    obtain ⟨q, hq⟩ := Go.Deep.choose_lt each
    refine ⟨q, ?_, fun j hj => (hq j hj).2⟩
    by_cases h0 : len = 0
    · exact .inl h0
    · obtain ⟨⟨a', c', k, _⟩, _⟩ := hq 0 (by omega)
      obtain ⟨b, off, e, hb⟩ := plain_of k
      obtain ⟨b', off', f⟩ := x
      cases f with
      | some f => simp [Addr.add] at e
      | none =>
        have hb2 : b' < W.heap.size := by
          simp [Addr.add] at e
          omega
        refine .inr ⟨b', off', rfl, hb2, fun j hj => ?_⟩
        obtain ⟨⟨a', c', k, k'⟩, _⟩ := hq j hj
        rw [Go.WideShapes.add_plain] at k
        exact ⟨a', c', k, k'⟩
end Go.Proofs.Ytjaogmbeoldefaa
